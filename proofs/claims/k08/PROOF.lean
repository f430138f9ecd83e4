import PyProof.Rows.All
import Wide.All
import OpenK.AllK
import Wide.FinOn
import HandS.ForMost
import HandS.Steps
import HandS.Evl
import HandS.IsInst
import HandS.Defaults
import HandS.Wide
import HandS.WideBits
import HandS.Zip
import HandS.Walk
import HandS.Text
import PySem.Challenge.RW_monochord_k08_digests_in_parts
set_option Elab.async false
set_option linter.all false
set_option maxRecDepth 100000
set_option maxHeartbeats 4000000
namespace K08
open PySem PySem.Spec PyProof.Rows L2 Evl
def topS (i : Nat) : Stmt := PySem.Challenge.pw_monochord_k08_digests_in_parts.main.body.getD i (.Pass ⟨0, 0, 0, 0⟩)
abbrev s_md5 : Stmt := topS 5
theorem sc_md5 : FnScope ["data", "parts"] ["data"] (defScope s_md5) := ⟨rfl, rfl, rfl, by decide +kernel, rfl, by decide +kernel, by decide +kernel⟩
abbrev s_Md5_init : Stmt := inClass (topS 6) 0
theorem sc_Md5_init : FnScope ["self"] ["self"] (defScope s_Md5_init) := ⟨rfl, rfl, rfl, by decide +kernel, rfl, by decide +kernel, by decide +kernel⟩
abbrev s_Md5_feed : Stmt := inClass (topS 6) 1
theorem sc_Md5_feed : FnScope ["self", "data", "waiting", "whole"] ["self", "data"] (defScope s_Md5_feed) := ⟨rfl, rfl, rfl, by decide +kernel, rfl, by decide +kernel, by decide +kernel⟩
abbrev s_Md5_digest : Stmt := inClass (topS 6) 2
theorem sc_Md5_digest : FnScope ["self", "padded", "state", "word", "byte"] ["self"] (defScope s_Md5_digest) := ⟨rfl, rfl, rfl, by decide +kernel, rfl, by decide +kernel, by decide +kernel⟩
abbrev s_low_bytes : Stmt := topS 7
theorem sc_low_bytes : FnScope ["number", "count", "shift"] ["number", "count"] (defScope s_low_bytes) := ⟨rfl, rfl, rfl, by decide +kernel, rfl, by decide +kernel, by decide +kernel⟩
abbrev s_padding : Stmt := topS 8
theorem sc_padding : FnScope ["length"] ["length"] (defScope s_padding) := ⟨rfl, rfl, rfl, by decide +kernel, rfl, by decide +kernel, by decide +kernel⟩
abbrev s_after_blocks : Stmt := topS 9
theorem sc_after_blocks : FnScope ["state", "data", "stop", "start"] ["state", "data", "stop"] (defScope s_after_blocks) := ⟨rfl, rfl, rfl, by decide +kernel, rfl, by decide +kernel, by decide +kernel⟩
abbrev s_words : Stmt := topS 10
theorem sc_words : FnScope ["block", "k"] ["block"] (defScope s_words) := ⟨rfl, rfl, rfl, by decide +kernel, rfl, by decide +kernel, by decide +kernel⟩
abbrev s_after_block : Stmt := topS 11
theorem sc_after_block : FnScope ["state", "words", "a", "b", "c", "d", "step", "chosen", "index", "mixed", "turn", "turned", "old", "new"] ["state", "words"] (defScope s_after_block) := ⟨rfl, rfl, rfl, by decide +kernel, rfl, by decide +kernel, by decide +kernel⟩
abbrev s_choice : Stmt := topS 12
theorem sc_choice : FnScope ["step", "b", "c", "d"] ["step", "b", "c", "d"] (defScope s_choice) := ⟨rfl, rfl, rfl, by decide +kernel, rfl, by decide +kernel, by decide +kernel⟩
abbrev s_law_draw : Stmt := topS 14
theorem sc_law_draw : FnScope ["cell", "many", "bound", "numbers", "k", "seed", "mixed"] ["cell", "many", "bound"] (defScope s_law_draw) := ⟨rfl, rfl, rfl, by decide +kernel, rfl, by decide +kernel, by decide +kernel⟩
abbrev s_law_is_integer : Stmt := topS 15
theorem sc_law_is_integer : FnScope ["actual"] ["actual"] (defScope s_law_is_integer) := ⟨rfl, rfl, rfl, by decide +kernel, rfl, by decide +kernel, by decide +kernel⟩
abbrev s_law_same : Stmt := topS 16
theorem sc_law_same : FnScope ["actual", "expected", "k"] ["actual", "expected"] (defScope s_law_same) := ⟨rfl, rfl, rfl, by decide +kernel, rfl, by decide +kernel, by decide +kernel⟩
abbrev s_law_part : Stmt := topS 17
theorem sc_law_part : FnScope ["cell", "numbers", "many"] ["cell"] (defScope s_law_part) := ⟨rfl, rfl, rfl, by decide +kernel, rfl, by decide +kernel, by decide +kernel⟩
abbrev s_law_asked : Stmt := topS 18
theorem sc_law_asked : FnScope ["digest", "fed", "first", "expected"] ["digest", "fed"] (defScope s_law_asked) := ⟨rfl, rfl, rfl, by decide +kernel, rfl, by decide +kernel, by decide +kernel⟩
abbrev s_law : Stmt := topS 19
theorem sc_law : FnScope ["script", "digests", "fed", "cell", "numbers", "part", "which", "handed"] ["script"] (defScope s_law) := ⟨rfl, rfl, rfl, by decide +kernel, rfl, by decide +kernel, by decide +kernel⟩
theorem hu64 {A : Around} {k : Nat} (hr : Room k A) : A.units + 64 < cLine := hr.units
/-! ### short words for readings -/
theorem ret_eq {v w : V} {H H' : Hp} {Q : VK} (k : RetV v H Q) (ex : Ex H H') (e : w = v) : Q w H' := e ▸ k H' ex
/-- isinstance(x, T), T a built-in class -/
theorem ev_isi {K : PySem.W.Frag} {σ : L2.St} {H : Hp} {ta : TE} {x : V} {t : String} {T : String} {b : Bool} (ha : Ev ta σ H x) (ht : ∀ H1, Ex H H1 → TyX K H1 x (.type t)) (hk : kitB t T = some b) :
    Ev (tCB (rIsi K) (tCons ta (tCons (tC (.ty T)) tNil))) σ H (.bl b) :=
  ev_cb (ea_cons ha (ea_cons ev_c ea_nil)) fun H1 e Q q => ⟨x, .ty T, _, _, b, rfl, .ty T, ht H1 e, kit_ty hk, q H1 (Ex.refl H1)⟩
theorem isi_int {K : PySem.W.Frag} {H : Hp} {i : Int} : ∀ H1, Ex H H1 → TyX K H1 (V.int i) (.type "int") := fun _ _ => .base (.int _)
theorem isi_bl {K : PySem.W.Frag} {H : Hp} {b : Bool} : ∀ H1, Ex H H1 → TyX K H1 (V.bl b) (.type "bool") := fun _ _ => .base (.bl _)
theorem isi_non {K : PySem.W.Frag} {H : Hp} : ∀ H1, Ex H H1 → TyX K H1 V.non (.type "NoneType") := fun _ _ => .base .non
theorem isi_lst {K : PySem.W.Frag} {H : Hp} {a : Addr} {xs : List V} (h : H a = some (.lst xs)) : ∀ H1, Ex H H1 → TyX K H1 (V.ref a) (.type "list") := fun _ e => .base (.lst (e _ _ h))
theorem isi_tup {K : PySem.W.Frag} {H : Hp} {a : Addr} {xs : List V} (h : H a = some (.tup xs)) : ∀ H1, Ex H H1 → TyX K H1 (V.ref a) (.type "tuple") := fun _ e => .base (.tup (e _ _ h))
theorem kit_ii : kitB "int" "int" = some true := by decide +kernel
theorem kit_ib : kitB "int" "bool" = some false := by decide +kernel
theorem kit_bb : kitB "bool" "bool" = some true := by decide +kernel
theorem kit_bi : kitB "bool" "int" = some true := by decide +kernel
theorem kit_ll : kitB "list" "list" = some true := by decide +kernel
theorem kit_tt : kitB "tuple" "tuple" = some true := by decide +kernel
theorem ev_isiI {K : PySem.W.Frag} {σ : L2.St} {H : Hp} {ta : TE} {i : Int} (ha : Ev ta σ H (.int i)) : Ev (tCB (rIsi K) (tCons ta (tCons (tC (.ty "int")) tNil))) σ H (.bl true) := ev_isi ha isi_int kit_ii
theorem ev_isiB {K : PySem.W.Frag} {σ : L2.St} {H : Hp} {ta : TE} {i : Int} (ha : Ev ta σ H (.int i)) : Ev (tCB (rIsi K) (tCons ta (tCons (tC (.ty "bool")) tNil))) σ H (.bl false) := ev_isi ha isi_int kit_ib
theorem ev_isiL {K : PySem.W.Frag} {σ : L2.St} {H : Hp} {ta : TE} {a : Addr} {xs : List V} (ha : Ev ta σ H (.ref a)) (h : H a = some (.lst xs)) : Ev (tCB (rIsi K) (tCons ta (tCons (tC (.ty "list")) tNil))) σ H (.bl true) := ev_isi ha (isi_lst h) kit_ll
theorem ev_isiBB {K : PySem.W.Frag} {σ : L2.St} {H : Hp} {ta : TE} {b : Bool} (ha : Ev ta σ H (.bl b)) : Ev (tCB (rIsi K) (tCons ta (tCons (tC (.ty "bool")) tNil))) σ H (.bl true) := ev_isi ha isi_bl kit_bb
theorem ev_chain {σ : L2.St} {H : Hp} {ta tb tc : TE} {g g' : Int → Int → Bool} {a b c : Int} (ha : Ev ta σ H (.int a)) (hb : Ev tb σ H (.int b)) (hc : Ev tc σ H (.int c)) :
    Ev (tChain (rI0 fun i j => .bl (g i j)) (rI0 fun i j => .bl (g' i j)) ta tb tc) σ H (.bl (g a b && g' b c)) := fun H1 e Q q =>
  ha H1 e _ fun H2 e2 => hb H2 (e.trans e2) _ fun H3 e3 => ⟨a, b, rfl, rfl, g a b, rfl, by
    cases hg : g a b with
    | true =>
      rw [if_pos rfl]
      rw [hg, Bool.true_and] at q
      exact hc H3 ((e.trans e2).trans e3) _ fun H4 e4 => ⟨b, c, rfl, rfl, q H4 ((e2.trans e3).trans e4)⟩
    | false =>
      rw [if_neg (by decide)]
      rw [hg, Bool.false_and] at q
      exact q H3 (e2.trans e3)⟩
theorem ev_isN {σ : L2.St} {H : Hp} {ta : TE} {x : V} (ha : Ev ta σ H x) : Ev (tOp rIsN ta (tC .non)) σ H (.bl (decide (x = .non))) := fun H1 e Q q => ha H1 e _ fun H2 e2 => ⟨rfl, q H2 e2⟩
theorem ev_notN {σ : L2.St} {H : Hp} {ta : TE} {x : V} (ha : Ev ta σ H x) : Ev (tOp rNotN ta (tC .non)) σ H (.bl (!decide (x = .non))) := fun H1 e Q q => ha H1 e _ fun H2 e2 => ⟨rfl, q H2 e2⟩
theorem ev_min2 {σ : L2.St} {H : Hp} {ta tb : TE} {i j : Int} (ha : Ev ta σ H (.int i)) (hb : Ev tb σ H (.int j)) :
    Ev (tCB (fun xs H Q => ∃ i j, xs = [.int i, .int j] ∧ Q (.int (if j < i then j else i)) H) (tCons ta (tCons tb tNil))) σ H (.int (if j < i then j else i)) :=
  ev_cb (ea_cons ha (ea_cons hb ea_nil)) fun H1 _ _ q => ⟨i, j, rfl, q H1 (Ex.refl H1)⟩
theorem ev_negI {σ : L2.St} {H : Hp} {ta : TE} {i : Int} (ha : Ev ta σ H (.int i)) : Ev (tUn (rU fun i => .int (-i)) ta) σ H (.int (-i)) := ev_un ha ru_neg
theorem ev_I0 {σ : L2.St} {H : Hp} {ta tb : TE} {g : Int → Int → V} {i j : Int} (ha : Ev ta σ H (.int i)) (hb : Ev tb σ H (.int j)) : Ev (tOp (rI0 g) ta tb) σ H (g i j) := ev_op ha hb rv_I0
theorem ev_I {σ : L2.St} {H : Hp} {ta tb : TE} {C : Int → Int → Prop} {g : Int → Int → V} {i j : Int} (ha : Ev ta σ H (.int i)) (hb : Ev tb σ H (.int j)) (hc : C i j) : Ev (tOp (rI C g) ta tb) σ H (g i j) := ev_op ha hb (rv_I hc)
theorem ev_eq {σ : L2.St} {H : Hp} {ta tb : TE} {x y : V} (ha : Ev ta σ H x) (hb : Ev tb σ H y) (hs : scal x y = true) : Ev (tOp rEq ta tb) σ H (.bl (decide (x = y))) := ev_op ha hb (rv_eq hs)
theorem ev_ne {σ : L2.St} {H : Hp} {ta tb : TE} {x y : V} (ha : Ev ta σ H x) (hb : Ev tb σ H y) (hs : scal x y = true) : Ev (tOp rNe ta tb) σ H (.bl (!decide (x = y))) := ev_op ha hb (rv_ne hs)
theorem et_B' {σ : L2.St} {H : Hp} {te : TE} {x : V} {b : Bool} (h : Ev te σ H x) (e : x = .bl b) : EvT (tB te) σ H b := et_B (e ▸ h)
theorem dec_lt {a b : Nat} : decide ((a : Int) < (b : Int)) = decide (a < b) := by
  by_cases h : a < b
  · rw [decide_eq_true h, decide_eq_true (by omega)]
  · rw [decide_eq_false h, decide_eq_false (by omega)]
theorem int_at {ns : List Int} {i : Nat} {x : V} (hx : (ns.map V.int)[i]? = some x) : ∃ n, ns[i]? = some n ∧ i < ns.length ∧ x = V.int n := by
  rw [List.getElem?_map] at hx
  cases en : ns[i]? with
  | none => rw [en] at hx; cases hx
  | some n => rw [en] at hx; exact ⟨n, rfl, (List.getElem?_eq_some_iff.mp en).1, (Option.some.inj hx).symm⟩
theorem at_int {ns : List Int} {i : Nat} {n : Int} (h : ns[i]? = some n) : (ns.map V.int)[i]? = some (V.int n) := by rw [List.getElem?_map, h]; rfl
local macro_rules | `(tactic| walk_at "side") => `(tactic| first
  | omega | (show CMul _ _; unfold CMul; omega) | (show CDiv _ _; unfold CDiv; omega) | (show CPow _ _; unfold CPow; omega) | (show (_ : Int) < _; omega) | (show (_ : Int) ≤ _; omega) | decide)
local macro_rules | `(tactic| walk_at "ev") => `(tactic| first
  | exact ev_var rfl
  | exact ev_c
  | (refine' ev_I0 ?h1 ?h2; (case h1 => walk_at "ev"); (case h2 => walk_at "ev"))
  | (refine' ev_negI ?h1; (case h1 => walk_at "ev"))
  | (refine' ev_I ?h1 ?h2 ?hc; (case h1 => walk_at "ev"); (case h2 => walk_at "ev"); (case hc => walk_at "side"))
  | (refine' ev_eq ?h1 ?h2 ?hc; (case h1 => walk_at "ev"); (case h2 => walk_at "ev"); (case hc => rfl))
  | (refine' ev_ne ?h1 ?h2 ?hc; (case h1 => walk_at "ev"); (case h2 => walk_at "ev"); (case hc => rfl))
  | (refine' ev_max2 ?h1 ?h2; (case h1 => walk_at "ev"); (case h2 => walk_at "ev"))
  | (refine' ev_min2 ?h1 ?h2; (case h1 => walk_at "ev"); (case h2 => walk_at "ev"))
  | (refine' ev_chain ?h1 ?h2 ?h3; (case h1 => walk_at "ev"); (case h2 => walk_at "ev"); (case h3 => walk_at "ev"))
  | (refine' ev_isN ?h1; (case h1 => walk_at "ev"))
  | (refine' ev_notN ?h1; (case h1 => walk_at "ev"))
  | (refine' ev_isiI ?h1; (case h1 => walk_at "ev"))
  | (refine' ev_isiB ?h1; (case h1 => walk_at "ev"))
  | (refine' ev_isiBB ?h1; (case h1 => walk_at "ev"))
  | (refine' ev_andV ?h1 (fun _ => ?h2); (case h1 => walk_at "ev"); (case h2 => walk_at "ev"))
  | (refine' ev_orV ?h1 (fun _ => ?h2); (case h1 => walk_at "ev"); (case h2 => walk_at "ev"))
  | (refine' ev_notV ?h1; (case h1 => walk_at "ev"))
  | walk_at "evmore")
local macro_rules | `(tactic| walk_at "et") => `(tactic| first
  | (refine' et_test ?h1; (case h1 => walk_at "ev"))
  | (refine' et_B ?h1; (case h1 => walk_at "ev"))
  | (refine' et_not ?h1; (case h1 => walk_at "et"))
  | (refine' et_and ?h1 (fun _ => ?h2); (case h1 => walk_at "et"); (case h2 => walk_at "et"))
  | (refine' et_or ?h1 (fun _ => ?h2); (case h1 => walk_at "et"); (case h2 => walk_at "et")))
local macro_rules | `(tactic| walk_at "ea") => `(tactic| first
  | exact ea_nil
  | (refine' ea_cons ?h1 ?h2; (case h1 => walk_at "ev"); (case h2 => walk_at "ea")))
local macro_rules | `(tactic| walk_at "when") => `(tactic| (refine' q_when ?h ?h1 ?h2; (case h => walk_at "et")))
local macro_rules | `(tactic| walk_at "whenS") => `(tactic| (refine' s_when ?h ?h1 ?h2; (case h => walk_at "et")))
local macro_rules | `(tactic| walk_at "if") => `(tactic| (refine' q_if ?h ?h1 ?h2; (case h => walk_at "et")))
local macro_rules | `(tactic| walk_at "ifS") => `(tactic| (refine' s_if ?h ?h1 ?h2; (case h => walk_at "et")))
local macro_rules | `(tactic| walk_at "ret") => `(tactic| (refine' s_ret ?h ?h1; (case h => walk_at "ev")))
local macro_rules | `(tactic| walk_at "asg") => `(tactic| (refine' q_asg ?h ?h1; (case h => walk_at "ev")))
local macro_rules | `(tactic| walk_at "asgS") => `(tactic| (refine' s_asg ?h ?h1; (case h => walk_at "ev")))

/-! ### lists, existing or new -/
def EvR (te : TE) (σ : L2.St) (H : Hp) (xs : List V) : Prop := ∀ H1, Ex H H1 → ∀ Q : VK, (∀ p H2, Ex H1 H2 → H2 p = some (.lst xs) → Q (.ref p) H2) → te σ H1 Q
def EvS (K : PySem.W.Frag) (te : TE) (σ : L2.St) (H : Hp) (xs : List V) : Prop := ∀ H1, Ex H H1 → ∀ Q : VK, (∀ p H2, Ex H1 H2 → SqL K H2 p xs → Q (.ref p) H2) → te σ H1 Q
section
variable {K : PySem.W.Frag} {σ : L2.St} {H H' : Hp} {ta tb te : TE} {xs ys : List V} {a : Addr}
theorem EvL.r (h : EvL te σ H xs) : EvR te σ H xs := fun H1 e Q q => h H1 e Q fun p H2 _ e2 h2 => q p H2 e2 h2
theorem Ev.r (h : Ev te σ H (.ref a)) (hx : H a = some (.lst xs)) : EvR te σ H xs := fun H1 e Q q => h H1 e Q fun H2 e2 => q a H2 e2 (e2 _ _ (e _ _ hx))
theorem EvR.s (h : EvR te σ H xs) : EvS K te σ H xs := fun H1 e Q q => h H1 e Q fun p H2 e2 h2 => q p H2 e2 (sq_of h2)
theorem Ev.s (h : Ev te σ H (.ref a)) (hx : SqL K H a xs) : EvS K te σ H xs := fun H1 e Q q => h H1 e Q fun H2 e2 => q a H2 e2 (ex_l e2 (ex_l e hx))
theorem EvR.mono (e : Ex H H') (h : EvR te σ H xs) : EvR te σ H' xs := fun H1 a Q q => h H1 (e.trans a) Q q
theorem EvS.mono (e : Ex H H') (h : EvS K te σ H xs) : EvS K te σ H' xs := fun H1 a Q q => h H1 (e.trans a) Q q
theorem EvL.is (h : EvL te σ H xs) (e : xs = ys) : EvL te σ H ys := e ▸ h
theorem EvR.is (h : EvR te σ H xs) (e : xs = ys) : EvR te σ H ys := e ▸ h
theorem el_cat (ha : EvR ta σ H xs) (hb : EvR tb σ H ys) (hl : xs.length + ys.length ≤ 100000) : EvL (tOp rCat ta tb) σ H (xs ++ ys) := fun H1 e Q q =>
  ha H1 e _ fun p H2 e2 h2 => hb H2 (e.trans e2) _ fun r H3 e3 h3 => ⟨p, r, xs, ys, rfl, rfl, e3 _ _ h2, h3, sz_of hl, fun l hl => q l _ (fresh_back (e2.trans e3) hl) ((e2.trans e3).trans (Ex.new hl)) upd_same⟩
theorem el_rep {k : Int} (ha : EvR ta σ H xs) (hb : Ev tb σ H (.int k)) (hk : -(2 ^ 63) ≤ k ∧ k < 2 ^ 63) (hl : xs.length * k.toNat ≤ 100000) : EvL (tOp rRep ta tb) σ H (List.replicate k.toNat xs).flatten := fun H1 e Q q =>
  ha H1 e _ fun p H2 e2 h2 => hb H2 (e.trans e2) _ fun H3 e3 => ⟨p, k, xs, rfl, rfl, e3 _ _ h2, hk.1, hk.2, sz_of hl, fun l hl => q l _ (fresh_back (e2.trans e3) hl) ((e2.trans e3).trans (Ex.new hl)) upd_same⟩
theorem rep_one {x : V} (n : Nat) : (List.replicate n [x]).flatten = List.replicate n x := by
  induction n with
  | zero => rfl
  | succ n ih => rw [List.replicate_succ, List.replicate_succ, List.flatten_cons, ih]; rfl
theorem el_of {te : TE} (h : EvS K te σ H xs) : EvL (tCB (rListS K) (tCons te tNil)) σ H xs := fun H1 e Q q =>
  h H1 e _ fun p H2 e2 h2 => ⟨p, xs, rfl, .inl h2, fun l hl => q l _ (fresh_back e2 hl) (e2.trans (Ex.new hl)) upd_same⟩
theorem ev_lenS (h : EvS K te σ H xs) : Ev (tCB (rLenS K) (tCons te tNil)) σ H (.int (xs.length : Int)) := fun H1 e Q q =>
  h H1 e _ fun p H2 e2 h2 => ⟨p, xs, rfl, .inl h2, q H2 e2⟩
theorem ev_sum {ns : List Int} (h : EvS K te σ H (ns.map V.int)) : Ev (tCB (rSum K) (tCons te tNil)) σ H (.int ns.sum) := fun H1 e Q q =>
  h H1 e _ fun p H2 e2 h2 => ⟨p, ns, rfl, h2, q H2 e2⟩
theorem dp_ints {K : PySem.W.Frag} {H : Hp} : ∀ ns : List Int, DpAll K H (ns.map V.int) (ns.map PyData.int)
  | [] => .nil
  | n :: r => .cons (.int n) (dp_ints r)
theorem eqv_ints : ∀ ns ms : List Int, PyData.eqvAll (ns.map PyData.int) (ms.map PyData.int) = decide (ns = ms)
  | [], [] => by simp [PyData.eqvAll]
  | [], _ :: _ => by simp [PyData.eqvAll]
  | _ :: _, [] => by simp [PyData.eqvAll]
  | n :: r, m :: t => by
    show (PyData.eqv (.int n) (.int m) && PyData.eqvAll (r.map PyData.int) (t.map PyData.int)) = _
    rw [eqv_ints r t]
    show ((n == m) && decide (r = t)) = _
    by_cases h1 : n = m <;> by_cases h2 : r = t <;> simp [h1, h2]
theorem canLay_ints : ∀ ns : List Int, PyData.canLayAll0 (ns.map PyData.int) = true
  | [] => by simp [PyData.canLayAll0]
  | n :: r => by
    show PyData.canLayAll0 (PyData.int n :: r.map PyData.int) = true
    rw [PyData.canLayAll0, canLay_ints r]
    simp [PyData.canLay0]
theorem depth_ints : ∀ ns : List Int, PyData.depthAll (ns.map PyData.int) ≤ 1
  | [] => by simp [PyData.depthAll]
  | n :: r => by
    show PyData.depthAll (PyData.int n :: r.map PyData.int) ≤ 1
    have := depth_ints r
    simp only [PyData.depthAll, PyData.depth]
    omega
theorem shaped_ints (ns : List Int) : SeqAt.shaped (.list (ns.map PyData.int)) = true := by
  unfold SeqAt.shaped
  have h1 := canLay_ints ns
  have h2 := depth_ints ns
  have h3 : PyData.depth (.list (ns.map PyData.int)) ≤ 64 := by
    rw [PyData.depth]
    omega
  rw [decide_eq_true h3, Bool.and_true]
  simpa only [PyData.canLay0] using h1
theorem ev_eqI {ns ms : List Int} (ha : EvS K ta σ H (ns.map V.int)) (hb : EvS K tb σ H (ms.map V.int)) : Ev (tOp (rEqD K) ta tb) σ H (.bl (decide (ns = ms))) := fun H1 e Q q =>
  ha H1 e _ fun p H2 e2 h2 => hb H2 (e.trans e2) _ fun r H3 e3 h3 => ⟨.list (ns.map PyData.int), .list (ms.map PyData.int), .lst (ex_l e3 h2) (dp_ints ns), .lst h3 (dp_ints ms), shaped_ints ns, shaped_ints ms, by
    show Q (.bl (PyData.eqvAll (ns.map PyData.int) (ms.map PyData.int))) H3
    rw [eqv_ints]
    exact q H3 (e2.trans e3)⟩
theorem ev_neI {ns ms : List Int} (ha : EvS K ta σ H (ns.map V.int)) (hb : EvS K tb σ H (ms.map V.int)) : Ev (tOp (rNeD K) ta tb) σ H (.bl (!decide (ns = ms))) := fun H1 e Q q =>
  ha H1 e _ fun p H2 e2 h2 => hb H2 (e.trans e2) _ fun r H3 e3 h3 => ⟨.list (ns.map PyData.int), .list (ms.map PyData.int), .lst (ex_l e3 h2) (dp_ints ns), .lst h3 (dp_ints ms), shaped_ints ns, shaped_ints ms, by
    show Q (.bl (!PyData.eqvAll (ns.map PyData.int) (ms.map PyData.int))) H3
    rw [eqv_ints]
    exact q H3 (e2.trans e3)⟩
theorem ev_ixS {i : Nat} {n : Int} {tl ti : TE} {v : V} (h : EvS K tl σ H xs) (hi : Ev ti σ H (.int n)) (ha : atI xs n = some v) : Ev (tOp (rIxL K) tl ti) σ H v := fun H1 e Q q =>
  h H1 e _ fun p H2 e2 h2 => hi H2 (e.trans e2) _ fun H3 e3 => ⟨p, xs, n, v, rfl, rfl, ex_l e3 h2, ha, q H3 (e2.trans e3)⟩
theorem el_slS {tl th : TO} {lo hi : Option Int} (h : EvS K te σ H xs) (h1 : EvO tl σ H lo) (h2 : EvO th σ H hi) : EvL (tSl (rSlL K) te tl th) σ H (cutV xs lo hi) := fun H1 e _ q =>
  h H1 e _ fun a H2 e2 hs => h1 H2 (e.trans e2) _ fun H3 e3 => h2 H3 ((e.trans e2).trans e3) _ fun H4 e4 =>
    ⟨a, xs, rfl, ex_l (e3.trans e4) hs, fun p hp => q p _ (fresh_back ((e2.trans e3).trans e4) hp) (((e2.trans e3).trans e4).trans (Ex.new hp)) upd_same⟩
theorem ev_at {n : Int} {tl ti : TE} {v : V} (h : EvS K tl σ H xs) (hi : Ev ti σ H (.int n)) (ha : atI xs n = some v) : Ev (tOp (rIxL K) tl ti) σ H v := ev_ixS (i := 0) h hi ha
theorem cut_to (xs : List V) (i : Nat) : cutV xs none (some (i : Int)) = xs.take i := by
  unfold cutV
  rw [HT.sIx_none, HT.sIx_nat, List.drop_zero, Nat.sub_zero]
  by_cases h : i ≤ xs.length
  · rw [Nat.min_eq_left h]
  · rw [Nat.min_eq_right (by omega), List.take_of_length_le (Nat.le_refl _), List.take_of_length_le (by omega)]
theorem cut_from (xs : List V) (i : Nat) : cutV xs (some (i : Int)) none = xs.drop i := by
  unfold cutV
  rw [HT.sIx_none, HT.sIx_nat]
  by_cases h : i ≤ xs.length
  · rw [Nat.min_eq_left h, List.take_of_length_le (by rw [List.length_drop]; omega)]
  · rw [Nat.min_eq_right (by omega), List.drop_of_length_le (Nat.le_refl _), List.drop_of_length_le (show xs.length ≤ i by omega), List.take_nil]
theorem cut_mid (xs : List V) (i j : Nat) : cutV xs (some (i : Int)) (some (j : Int)) = (xs.drop i).take (j - i) := by
  unfold cutV
  rw [HT.sIx_nat, HT.sIx_nat]
  by_cases h : i ≤ xs.length
  · rw [Nat.min_eq_left h]
    by_cases h2 : j ≤ xs.length
    · rw [Nat.min_eq_left h2]
    · rw [Nat.min_eq_right (by omega), List.take_of_length_le (by rw [List.length_drop]; omega), List.take_of_length_le (by rw [List.length_drop]; omega)]
  · rw [Nat.min_eq_right (by omega : xs.length ≤ i), List.drop_of_length_le (Nat.le_refl _), List.drop_of_length_le (show xs.length ≤ i by omega)]
    simp
theorem el_to {th : TE} {ns : List Int} {i : Nat} (h : EvS K te σ H (ns.map V.int)) (h2 : Ev th σ H (.int i)) : EvL (tSl (rSlL K) te tNoPart (tPart th)) σ H ((ns.take i).map V.int) :=
  EvL.is (el_slS h eo_none (eo_some h2)) (by rw [List.map_take]; exact cut_to _ i)
theorem el_from {th : TE} {ns : List Int} {i : Nat} (h : EvS K te σ H (ns.map V.int)) (h2 : Ev th σ H (.int i)) : EvL (tSl (rSlL K) te (tPart th) tNoPart) σ H ((ns.drop i).map V.int) :=
  EvL.is (el_slS h (eo_some h2) eo_none) (by rw [List.map_drop]; exact cut_from _ i)
theorem el_mid {t1 t2 : TE} {ns : List Int} {i j : Nat} (h : EvS K te σ H (ns.map V.int)) (h1 : Ev t1 σ H (.int i)) (h2 : Ev t2 σ H (.int j)) : EvL (tSl (rSlL K) te (tPart t1) (tPart t2)) σ H (((ns.drop i).take (j - i)).map V.int) :=
  EvL.is (el_slS h (eo_some h1) (eo_some h2)) (by rw [List.map_take, List.map_drop]; exact cut_mid _ i j)
section
variable {D : Ends} {tz : TS} {sp : Sp} {dvs vs : List V} {E : XK} {tA : TA}
/-- x = f(..), whatever f promises -/
theorem q_asgC {i : Nat} (h : EvA tA σ H vs) (k : ∀ H1, Ex H H1 → sp (vs ++ dvs) H1 (fun x H2 => tz D (σ.set i (some x)) H2) E) : tSeq (tAsg (tCall sp dvs E tA) (gName i)) tz D σ H := h H (Ex.refl H) _ fun H1 e => k H1 e
theorem s_asgC {i : Nat} (h : EvA tA σ H vs) (k : ∀ H1, Ex H H1 → sp (vs ++ dvs) H1 (fun x H2 => D.nx (σ.set i (some x)) H2) E) : tAsg (tCall sp dvs E tA) (gName i) D σ H := h H (Ex.refl H) _ fun H1 e => k H1 e
theorem q_dropC (h : EvA tA σ H vs) (k : ∀ H1, Ex H H1 → sp (vs ++ dvs) H1 (fun _ H2 => tz D σ H2) E) : tSeq (tDrop (tCall sp dvs E tA)) tz D σ H := h H (Ex.refl H) _ fun H1 e => k H1 e
theorem s_retC (h : EvA tA σ H vs) (k : ∀ H1, Ex H H1 → sp (vs ++ dvs) H1 D.rt E) : tRet (tCall sp dvs E tA) D σ H := h H (Ex.refl H) _ fun H1 e => k H1 e
end
theorem gl_get {ns : List Int} {i : Nat} (h : i < ns.length) : ns[i]? = some (ns.getD i 0) := by
  rw [List.getD_eq_getElem?_getD, List.getElem?_eq_getElem h]
  rfl
theorem q_asgRaw {te : TE} {i : Nat} {D : Ends} {tz : TS} (P : V → Hp → Prop) (h : ∀ Q : VK, (∀ x H2, P x H2 → Q x H2) → te σ H Q) (k : ∀ x H2, P x H2 → tz D (σ.set i (some x)) H2) : tSeq (tAsg te (gName i)) tz D σ H := h _ k
/-- a, b = a pair -/
theorem q_asgT {te : TE} {i j : Nat} {D : Ends} {tz : TS} (P : V → V → Hp → Prop) (h : ∀ Q : VK, (∀ t x y H2, P x y H2 → SqT K H2 t [x, y] → Q (.ref t) H2) → te σ H Q) (k : ∀ x y H2, P x y H2 → tz D ((σ.set i (some x)).set j (some y)) H2) :
    tSeq (tAsg te (gTup K 2 (gCons (gName i) (gCons (gName j) gNil)))) tz D σ H := h _ fun t x y H2 hP hT => ⟨t, [x, y], rfl, hT, rfl, x, [y], rfl, y, [], rfl, rfl, k x y H2 hP⟩
/-- the law's cell -/
def cellI (ns : List Int) (k : Int) : Int := ns.getD k.toNat 0
theorem cellI_in {ns : List Int} {k : Int} (h0 : 0 ≤ k) (h : k < ns.length) : ns[k.toNat]? = some (cellI ns k) := by
  unfold cellI
  rw [List.getD_eq_getElem?_getD, List.getElem?_eq_getElem (by omega)]
  rfl
theorem cellI_out {ns : List Int} {k : Int} (h : ¬ k < ns.length) : cellI ns k = 0 := by
  unfold cellI
  rw [List.getD_eq_getElem?_getD, List.getElem?_eq_none (by omega)]
  rfl
end
theorem Ex.get {H H' : Hp} {a : Addr} {o : HO} (e : Ex H H') (h : H a = some o) : H' a = some o := e a o h
local macro_rules | `(tactic| walk_at "hp") => `(tactic| first
  | assumption
  | exact upd_same
  | (refine' Ex.get (by assumption) ?h1; (case h1 => walk_at "hp")))
local macro_rules | `(tactic| walk_at "ex") => `(tactic| first
  | assumption
  | exact Ex.refl _
  | (refine' Ex.trans ?h1 (by assumption); (case h1 => walk_at "ex")))
local macro_rules | `(tactic| walk_at "sq") => `(tactic| first
  | assumption
  | (refine' sq_of ?h1; (case h1 => walk_at "hp"))
  | (refine' ex_l (by assumption) ?h1; (case h1 => walk_at "sq")))
local macro_rules | `(tactic| walk_at "evs") => `(tactic| first
  | (refine' Ev.s ?h1 ?h2; (case h1 => exact ev_var rfl); (case h2 => walk_at "sq"))
  | (refine' EvR.s ?h1; (case h1 => walk_at "evr")))
local macro_rules | `(tactic| walk_at "evr") => `(tactic| first
  | (refine' Ev.r ?h1 ?h2; (case h1 => exact ev_var rfl); (case h2 => walk_at "hp"))
  | (refine' EvL.r ?h1; (case h1 => walk_at "el")))
local macro_rules | `(tactic| walk_at "eo") => `(tactic| first
  | exact eo_none
  | (refine' eo_some ?h1; (case h1 => walk_at "ev")))
local macro_rules | `(tactic| walk_at "el") => `(tactic| first
  | (refine' el_lst ?h1 ?h2; (case h1 => walk_at "ea"); (case h2 => exact Nat.le_of_ble_eq_true rfl))
  | (refine' el_cat ?h1 ?h2 ?h3; (case h1 => walk_at "evr"); (case h2 => walk_at "evr"); (case h3 => walk_at "len"))
  | (refine' el_rep ?h1 ?h2 ?h3 ?h4; (case h1 => walk_at "evr"); (case h2 => walk_at "ev"); (case h3 => walk_at "side2"); (case h4 => walk_at "len"))
  | (refine' el_of ?h1; (case h1 => walk_at "evs"))
  | (refine' el_to ?h1 ?h2; (case h1 => walk_at "evs"); (case h2 => walk_at "ev"))
  | (refine' el_from ?h1 ?h2; (case h1 => walk_at "evs"); (case h2 => walk_at "ev"))
  | (refine' el_mid ?h1 ?h2 ?h3; (case h1 => walk_at "evs"); (case h2 => walk_at "ev"); (case h3 => walk_at "ev"))
  | (refine' el_slS ?h1 ?h2 ?h3; (case h1 => walk_at "evs"); (case h2 => walk_at "eo"); (case h3 => walk_at "eo"))
  | walk_at "elmore")
local macro_rules | `(tactic| walk_at "evmore") => `(tactic| first
  | (refine' ev_lenS ?h1; (case h1 => walk_at "evs"))
  | (refine' ev_sum ?h1; (case h1 => walk_at "evs"))
  | (refine' ev_eqI ?h1 ?h2; (case h1 => walk_at "evs"); (case h2 => walk_at "evs"))
  | (refine' ev_neI ?h1 ?h2; (case h1 => walk_at "evs"); (case h2 => walk_at "evs"))
  | (refine' ev_at ?h1 ?h2 ?h3; (case h1 => walk_at "evs"); (case h2 => walk_at "ev"); (case h3 => walk_at "at"))
  | (refine' ev_isiL ?h1 ?h2; (case h1 => walk_at "ev"); (case h2 => walk_at "hp"))
  | walk_at "evown")
local macro_rules | `(tactic| walk_at "at") => `(tactic| first
  | exact at_of rfl (at_int (by assumption))
  | exact at_of rfl (by assumption))
local macro_rules | `(tactic| walk_at "asgL") => `(tactic| (refine' q_asgL ?h ?h1; (case h => walk_at "el")))
local macro_rules | `(tactic| walk_at "retL") => `(tactic| (refine' s_retL ?h ?h1; (case h => walk_at "el")))

/-! ### comprehensions whose items are said in a list -/
theorem et_yes {σ : L2.St} {H : Hp} : EvT tYes σ H true := fun H1 _ _ q => q H1 (Ex.refl H1)
section
variable {K : PySem.W.Frag} {σ : L2.St} {H : Hp} {t1 t2 te : TE} {xs ys zs : List V} {vs : List Nat}
theorem take_snoc {zs : List V} {i : Nat} {z : V} (h : zs[i]? = some z) : zs.take (i + 1) = zs.take i ++ [z] := by
  rw [List.take_add_one, h]
  rfl
theorem el_lcZ {j1 j2 : Nat} (zs : List V) (h1 : EvS K t1 σ H xs) (h2 : EvS K t2 σ H ys) (hz : zs.length = min xs.length ys.length) (hb : zs.length ≤ 50000)
    (hw : ∀ x y, wipe (((wipe σ vs).set j1 (some x)).set j2 (some y)) vs = wipe σ vs)
    (he : ∀ (i : Nat) (x y : V) H1, Ex H H1 → xs[i]? = some x → ys[i]? = some y → ∃ z, zs[i]? = some z ∧ Ev te (((wipe σ vs).set j1 (some x)).set j2 (some y)) H1 z) :
    EvL (tLc (iZip K (tCons t1 (tCons t2 tNil))) (gTup K 2 (gCons (gName j1) (gCons (gName j2) gNil))) tYes te vs) σ H zs := fun H0 e Q q =>
  h1 H0 e _ fun p H1 e1 hp => h2 H1 (e.trans e1) _ fun r H2 e2 hr => ⟨p, r, xs, ys, rfl, ex_l e2 hp, hr, fun D hD =>
    ⟨fun i m H' => m = zs.length - i ∧ i ≤ zs.length ∧ Ex H2 H' ∧ H' D = some (.lst (zs.take i)), ⟨zs.length, rfl, Nat.zero_le _, Ex.new hD, upd_same⟩, by
      rintro i m H' ⟨rfl, hi, ex, hd⟩
      have qx : SqL K H' p xs := ex_l (e2.trans ex) hp
      have qy : SqL K H' r ys := ex_l ex hr
      by_cases hlt : i < zs.length
      · have hx : xs[i]? = some xs[i] := List.getElem?_eq_getElem (by omega)
        have hy : ys[i]? = some ys[i] := List.getElem?_eq_getElem (by omega)
        refine .inr ⟨⟨xs, ys, _, _, qx, qy, hx, hy⟩, fun H3 => i + 1 ≤ zs.length ∧ Ex H2 H3 ∧ H3 D = some (.lst (zs.take (i + 1))), fun H3 h3 => ⟨zs.length - (i + 1), by omega, rfl, h3⟩, fun v H3 hv => ?_⟩
        obtain ⟨T, x, y, rfl, hT, rfl, f1, f2⟩ := hv
        have ex3 : Ex H' (upd H' T (.tup [x, y])) := Ex.new hT
        obtain ⟨z, hz1, hz2⟩ := he i x y (upd H' T (.tup [x, y])) ((((e.trans e1).trans e2).trans ex).trans ex3) (f1 _ qx) (f2 _ qy)
        refine ⟨T, [x, y], rfl, st_of upd_same, rfl, x, [y], rfl, y, [], rfl, rfl, hw x y, ?_⟩
        refine hz2 _ (Ex.refl _) _ fun H4 e4 => ⟨zs.take i, e4 _ _ (ex3 _ _ hd), sz_lt (by rw [List.length_take]; omega), hlt, ?_, ?_⟩
        · exact Ex.mut ((ex.trans ex3).trans e4) hD
        · rw [upd_same, take_snoc hz1]
      · have ei : i = zs.length := by omega
        refine .inl ⟨⟨xs, ys, qx, qy, by omega⟩, ?_⟩
        rw [ei, List.take_length] at hd
        exact q D H' (fresh_back (e1.trans e2) hD) ((e1.trans e2).trans ex) hd⟩⟩
/-- over a list, each item kept -/
theorem el_lcS {j : Nat} (zs : List V) (h1 : EvS K t1 σ H xs) (hz : zs.length = xs.length) (hb : zs.length ≤ 50000) (hw : ∀ x, wipe ((wipe σ vs).set j (some x)) vs = wipe σ vs)
    (he : ∀ (i : Nat) (x : V) H1, Ex H H1 → xs[i]? = some x → ∃ z, zs[i]? = some z ∧ Ev te ((wipe σ vs).set j (some x)) H1 z) :
    EvL (tLc (iList K t1) (gName j) tYes te vs) σ H zs := fun H0 e Q q =>
  h1 H0 e _ fun p H1 e1 hp => ⟨p, rfl, ⟨xs, hp⟩, fun D hD => lc_list (xs := xs) (fun i H' => Ex H1 H' ∧ H' D = some (.lst (zs.take i))) ⟨Ex.new hD, upd_same⟩ (fun i H' _ h => ex_l h.1 hp)
    (fun i x H' hi h => ⟨hw x, by
      obtain ⟨z, hz1, hz2⟩ := he i x H' ((e.trans e1).trans h.1) hi
      have hl : i < xs.length := (List.getElem?_eq_some_iff.mp hi).1
      refine hz2 H' (Ex.refl _) _ fun H4 e4 => ⟨zs.take i, e4 _ _ h.2, sz_lt (by rw [List.length_take]; omega), Ex.mut (h.1.trans e4) hD, ?_⟩
      rw [upd_same, take_snoc hz1]⟩)
    (fun H' h => q D H' (fresh_back e1 hD) (e1.trans h.1) (by rw [h.2, ← hz, List.take_length]))⟩
/-- over range(n) -/
theorem el_lcR {ta : TA} {n : Int} {j : Nat} (zs : List V) (h1 : EvA ta σ H [.int n]) (hn : -100000 ≤ n) (hz : zs.length = n.toNat) (hb : zs.length ≤ 50000) (hw : ∀ x, wipe ((wipe σ vs).set j (some x)) vs = wipe σ vs)
    (he : ∀ (i : Nat) H1, Ex H H1 → i < zs.length → ∃ z, zs[i]? = some z ∧ Ev te ((wipe σ vs).set j (some (.int (i : Int)))) H1 z) :
    EvL (tLc (iRng1 ta) (gName j) tYes te vs) σ H zs := fun H0 e Q q =>
  h1 H0 e _ fun H1 e1 => ⟨n, rfl, by omega, by omega, fun D hD => lc_range (lo := 0) (n := n.toNat) (fun i H' => Ex H1 H' ∧ H' D = some (.lst (zs.take i))) ⟨Ex.new hD, upd_same⟩
    (fun i H' hi h => by
      have e0 : (0 : Int) + (i : Int) = (i : Int) := Int.zero_add _
      rw [e0]
      obtain ⟨z, hz1, hz2⟩ := he i H' ((e.trans e1).trans h.1) (by omega)
      refine ⟨hw _, hz2 H' (Ex.refl _) _ fun H4 e4 => ⟨zs.take i, e4 _ _ h.2, sz_lt (by rw [List.length_take]; omega), Ex.mut (h.1.trans e4) hD, ?_⟩⟩
      rw [upd_same, take_snoc hz1])
    (fun H' h => q D H' (fresh_back e1 hD) (e1.trans h.1) (by rw [h.2, show n.toNat = zs.length by omega, List.take_length]))⟩
/-- y = [.. for x in f(..)], whatever f promises -/
theorem s_asgLC {sp : Sp} {dvs args : List V} {E : XK} {ta : TA} {g : TG} {tt : TT} {D : Ends} {i : Nat} (h : EvA ta σ H args) (k : ∀ H1, Ex H H1 → sp (args ++ dvs) H1 (fun x H2 => tAsg (tLc (iList K (tC x)) g tt te vs) (gName i) D σ H2) E) :
    tAsg (tLc (iList K (tCall sp dvs E ta)) g tt te vs) (gName i) D σ H := h H (Ex.refl H) _ fun H1 e => k H1 e
theorem q_asgLC {sp : Sp} {dvs args : List V} {E : XK} {ta : TA} {g : TG} {tt : TT} {D : Ends} {i : Nat} {tz : TS} (h : EvA ta σ H args) (k : ∀ H1, Ex H H1 → sp (args ++ dvs) H1 (fun x H2 => tSeq (tAsg (tLc (iList K (tC x)) g tt te vs) (gName i)) tz D σ H2) E) :
    tSeq (tAsg (tLc (iList K (tCall sp dvs E ta)) g tt te vs) (gName i)) tz D σ H := h H (Ex.refl H) _ fun H1 e => k H1 e
end

/-! ### calls with keywords, defaults -/
theorem kwAll1 {K : PySem.W.Frag} {D : Addr} {q : Str × V} (h : ∃ u, PySem.W.nsIn K D q.1 = some (some u) ∧ RelV q.2 u) : ∀ p ∈ [q], ∃ u, PySem.W.nsIn K D p.1 = some (some u) ∧ RelV p.2 u := fun p hp => by
  rcases List.mem_cons.mp hp with rfl | hp
  · exact h
  · cases hp
section
variable {K : PySem.W.Frag} {x qual : Str} {params : Arguments} {body : List Stmt} {scope : Scope} {dvs : List V} {kws : List (Str × V)} {f : Addr} {fd : FuncData} {ps : List Str}
/-- f(a, .., k = v, ..), nothing left to a default, no defaults of place -/
theorem fund_kb0 {g : List Value → List Value → List Value} {gV : List V → List V → List V} (F : FunD K x qual params body scope [] kws f fd) (n : Nat) (ks : List Str)
    (hrel : ∀ {vs : List V} {us : List Value} {zs : List V} {ws : List Value}, Vals vs us → Vals zs ws → Vals (gV vs zs) (g us ws))
    (h : ∀ (kV doc pm : Value) (an : Option Addr) (cdv ct : Value) (us ws : List Value), us.length = n → ws.length = ks.length → bindArgs (PySem.W.fnOf x qual params body scope .none kV doc pm an cdv ct) ⟨us, ks.zip ws⟩ = pure (ps.zip (g us ws))) :
    KBn K fd ps n ks g gV := by
  obtain ⟨oc, od, dV, kV, doc, pm, an, cdv, ct, osl, rfl, lk, hcd, hD, hK⟩ := F.ex
  rcases hD with ⟨_, rfl⟩ | ⟨e, _⟩
  · exact ⟨fun s us ws X l1 l2 => .of_eq (h kV doc pm an cdv ct us ws l1 l2), hrel⟩
  · exact absurd rfl e
/-- the same of a def with defaults of place -/
theorem fund_kb1 {g : List Value → List Value → List Value} {gV : List V → List V → List V} (F : FunD K x qual params body scope dvs kws f fd) (hd : dvs ≠ []) (n : Nat) (ks : List Str)
    (hrel : ∀ {vs : List V} {us : List Value} {zs : List V} {ws : List Value}, Vals vs us → Vals zs ws → Vals (gV vs zs) (g us ws))
    (h : ∀ (T : Addr) (kV doc pm : Value) (an : Option Addr) (cdv ct : Value) (us its ws : List Value), us.length = n → its.length = dvs.length → ws.length = ks.length →
      ∃ k, bindArgs (PySem.W.fnOf x qual params body scope (.ref T) kV doc pm an cdv ct) ⟨us, ks.zip ws⟩ = seqItems? (.ref T) >>= k ∧ k (some its.toArray) = pure (ps.zip (g us ws))) :
    KBn K fd ps n ks g gV := by
  obtain ⟨oc, od, dV, kV, doc, pm, an, cdv, ct, osl, rfl, lk, hcd, hD, hK⟩ := F.ex
  rcases hD with ⟨e, _⟩ | ⟨_, T, o, its, m, rfl, lT, oT, rT⟩
  · exact absurd e hd
  · refine ⟨fun s us ws X l1 l2 => ?_, hrel⟩
    obtain ⟨k, e1, e2⟩ := h T kV doc pm an cdv ct us its ws l1 rT.length.symm l2
    refine BindsTo.of_looks fun M => ?_
    rw [e1]
    exact looks_items X lT oT (.of_pure e2)
end

/-- what the top has left -/
structure TX (K : PySem.W.Frag) (mg : Str → Option Value) where
  a_md5 : Addr
  d_md5 : FuncData
  F_md5 : Fun K "md5" "md5" s_md5 a_md5 d_md5
  b_md5 : Binds K d_md5 ["data"] []
  g_md5 : mg "md5" = some (.ref a_md5)
  a_Md5_init : Addr
  d_Md5_init : FuncData
  F_Md5_init : Fun K "__init__" "Md5.__init__" s_Md5_init a_Md5_init d_Md5_init
  b_Md5_init : Binds K d_Md5_init ["self"] []
  a_Md5_feed : Addr
  d_Md5_feed : FuncData
  F_Md5_feed : Fun K "feed" "Md5.feed" s_Md5_feed a_Md5_feed d_Md5_feed
  b_Md5_feed : Binds K d_Md5_feed ["self", "data"] []
  a_Md5_digest : Addr
  d_Md5_digest : FuncData
  F_Md5_digest : Fun K "digest" "Md5.digest" s_Md5_digest a_Md5_digest d_Md5_digest
  b_Md5_digest : Binds K d_Md5_digest ["self"] []
  a_low_bytes : Addr
  d_low_bytes : FuncData
  F_low_bytes : Fun K "_low_bytes" "_low_bytes" s_low_bytes a_low_bytes d_low_bytes
  b_low_bytes : Binds K d_low_bytes ["number", "count"] []
  g_low_bytes : mg "_low_bytes" = some (.ref a_low_bytes)
  a_padding : Addr
  d_padding : FuncData
  F_padding : Fun K "_padding" "_padding" s_padding a_padding d_padding
  b_padding : Binds K d_padding ["length"] []
  g_padding : mg "_padding" = some (.ref a_padding)
  a_after_blocks : Addr
  d_after_blocks : FuncData
  F_after_blocks : Fun K "_after_blocks" "_after_blocks" s_after_blocks a_after_blocks d_after_blocks
  b_after_blocks : Binds K d_after_blocks ["state", "data", "stop"] []
  g_after_blocks : mg "_after_blocks" = some (.ref a_after_blocks)
  a_words : Addr
  d_words : FuncData
  F_words : Fun K "_words" "_words" s_words a_words d_words
  b_words : Binds K d_words ["block"] []
  g_words : mg "_words" = some (.ref a_words)
  a_after_block : Addr
  d_after_block : FuncData
  F_after_block : Fun K "_after_block" "_after_block" s_after_block a_after_block d_after_block
  b_after_block : Binds K d_after_block ["state", "words"] []
  g_after_block : mg "_after_block" = some (.ref a_after_block)
  a_choice : Addr
  d_choice : FuncData
  F_choice : Fun K "_choice" "_choice" s_choice a_choice d_choice
  b_choice : Binds K d_choice ["step", "b", "c", "d"] []
  g_choice : mg "_choice" = some (.ref a_choice)
  a_law_draw : Addr
  d_law_draw : FuncData
  F_law_draw : Fun K "_law_draw" "_law_draw" s_law_draw a_law_draw d_law_draw
  b_law_draw : Binds K d_law_draw ["cell", "many", "bound"] []
  g_law_draw : mg "_law_draw" = some (.ref a_law_draw)
  a_law_is_integer : Addr
  d_law_is_integer : FuncData
  F_law_is_integer : Fun K "_law_is_integer" "_law_is_integer" s_law_is_integer a_law_is_integer d_law_is_integer
  b_law_is_integer : Binds K d_law_is_integer ["actual"] []
  g_law_is_integer : mg "_law_is_integer" = some (.ref a_law_is_integer)
  a_law_same : Addr
  d_law_same : FuncData
  F_law_same : Fun K "_law_same" "_law_same" s_law_same a_law_same d_law_same
  b_law_same : Binds K d_law_same ["actual", "expected"] []
  g_law_same : mg "_law_same" = some (.ref a_law_same)
  a_law_part : Addr
  d_law_part : FuncData
  F_law_part : Fun K "_law_part" "_law_part" s_law_part a_law_part d_law_part
  b_law_part : Binds K d_law_part ["cell"] []
  g_law_part : mg "_law_part" = some (.ref a_law_part)
  a_law_asked : Addr
  d_law_asked : FuncData
  F_law_asked : Fun K "_law_asked" "_law_asked" s_law_asked a_law_asked d_law_asked
  b_law_asked : Binds K d_law_asked ["digest", "fed"] []
  g_law_asked : mg "_law_asked" = some (.ref a_law_asked)
  a_law : Addr
  d_law : FuncData
  F_law : Fun K "law" "law" s_law a_law d_law
  b_law : Binds K d_law ["script"] []
  g_law : mg "law" = some (.ref a_law)
  C_Md5 : Addr
  cl_Md5 : Cls K C_Md5
  g_Md5 : mg "Md5" = some (.ref C_Md5)
  M_Md5 : Mk K C_Md5 a_Md5_init
  me_Md5_feed : Meth K C_Md5 "feed" a_Md5_feed
  me_Md5_digest : Meth K C_Md5 "digest" a_Md5_digest
  n_Md5_state : NoAttr K C_Md5 "_state"
  n_Md5_length : NoAttr K C_Md5 "_length"
  n_Md5_rest : NoAttr K C_Md5 "_rest"
  m_len : mg "len" = none
  m_range : mg "range" = none
  m_tuple : mg "tuple" = none
  m_zip : mg "zip" = none
  m_int : mg "int" = none
  m_isinstance : mg "isinstance" = none
  m_bool : mg "bool" = none
  m_list : mg "list" = none
  u_WORD : Value
  c_WORD : mg "_WORD" = some u_WORD
  r_WORD : RelV (.int (4294967295)) u_WORD
  A_START : Addr
  c_START : mg "_START" = some (.ref A_START)
  s_START : ∀ H, SqT K H A_START [V.int 1732584193, V.int 4023233417, V.int 2562383102, V.int 271733878]
  A_ROTATIONS_0 : Addr
  s_ROTATIONS_0 : ∀ H, SqT K H A_ROTATIONS_0 [V.int 7, V.int 12, V.int 17, V.int 22]
  A_ROTATIONS_1 : Addr
  s_ROTATIONS_1 : ∀ H, SqT K H A_ROTATIONS_1 [V.int 5, V.int 9, V.int 14, V.int 20]
  A_ROTATIONS_2 : Addr
  s_ROTATIONS_2 : ∀ H, SqT K H A_ROTATIONS_2 [V.int 4, V.int 11, V.int 16, V.int 23]
  A_ROTATIONS_3 : Addr
  s_ROTATIONS_3 : ∀ H, SqT K H A_ROTATIONS_3 [V.int 6, V.int 10, V.int 15, V.int 21]
  A_ROTATIONS : Addr
  c_ROTATIONS : mg "_ROTATIONS" = some (.ref A_ROTATIONS)
  s_ROTATIONS : ∀ H, SqT K H A_ROTATIONS [V.ref A_ROTATIONS_0, V.ref A_ROTATIONS_1, V.ref A_ROTATIONS_2, V.ref A_ROTATIONS_3]
  A_CONSTANTS : Addr
  c_CONSTANTS : mg "_CONSTANTS" = some (.ref A_CONSTANTS)
  s_CONSTANTS : ∀ H, SqT K H A_CONSTANTS [V.int 3614090360, V.int 3905402710, V.int 606105819, V.int 3250441966, V.int 4118548399, V.int 1200080426, V.int 2821735955, V.int 4249261313, V.int 1770035416, V.int 2336552879, V.int 4294925233, V.int 2304563134, V.int 1804603682, V.int 4254626195, V.int 2792965006, V.int 1236535329, V.int 4129170786, V.int 3225465664, V.int 643717713, V.int 3921069994, V.int 3593408605, V.int 38016083, V.int 3634488961, V.int 3889429448, V.int 568446438, V.int 3275163606, V.int 4107603335, V.int 1163531501, V.int 2850285829, V.int 4243563512, V.int 1735328473, V.int 2368359562, V.int 4294588738, V.int 2272392833, V.int 1839030562, V.int 4259657740, V.int 2763975236, V.int 1272893353, V.int 4139469664, V.int 3200236656, V.int 681279174, V.int 3936430074, V.int 3572445317, V.int 76029189, V.int 3654602809, V.int 3873151461, V.int 530742520, V.int 3299628645, V.int 4096336452, V.int 1126891415, V.int 2878612391, V.int 4237533241, V.int 1700485571, V.int 2399980690, V.int 4293915773, V.int 2240044497, V.int 1873313359, V.int 4264355552, V.int 2734768916, V.int 1309151649, V.int 4149444226, V.int 3174756917, V.int 718787259, V.int 3951481745]
section
variable {P : Program} {w : World} {K : PySem.W.Frag} {mg : Str → Option Value} {base : Heap}
/-! ### int(x), bits of a number -/
theorem Ev.is {σ : L2.St} {H : Hp} {te : TE} {x y : V} (h : Ev te σ H x) (e : x = y) : Ev te σ H y := e ▸ h
theorem ev_int1 {σ : L2.St} {H : Hp} {te : TE} {i : Int} (h : Ev te σ H (.int i)) : Ev (tCB (fun xs H Q => (∃ i, xs = [V.int i] ∧ Q (V.int i) H) ∨ ∃ k, xs = [V.bl k] ∧ Q (V.int (if k = true then 1 else 0)) H) (tCons te tNil)) σ H (.int i) :=
  ev_cb (ea_cons h ea_nil) fun H1 _ Q q => .inl ⟨i, rfl, q H1 (Ex.refl H1)⟩
theorem q_augR {σ : L2.St} {H : Hp} {te : TE} {D : Ends} {tz : TS} {i : Nat} {g : Int → Int → V} {a b : Int} (h1 : σ[i]? = some (some (.int a))) (h : Ev te σ H (.int b)) (k : ∀ H1, Ex H H1 → tz D (σ.set i (some (g a b))) H1) : tSeq (tAug i te (rI0 g)) tz D σ H :=
  ⟨_, h1, h H (Ex.refl H) _ fun H1 e => ⟨a, b, rfl, rfl, k H1 e⟩⟩
theorem s_augR {σ : L2.St} {H : Hp} {te : TE} {D : Ends} {i : Nat} {g : Int → Int → V} {a b : Int} (h1 : σ[i]? = some (some (.int a))) (h : Ev te σ H (.int b)) (k : ∀ H1, Ex H H1 → D.nx (σ.set i (some (g a b))) H1) : tAug i te (rI0 g) D σ H :=
  ⟨_, h1, h H (Ex.refl H) _ fun H1 e => ⟨a, b, rfl, rfl, k H1 e⟩⟩
theorem ev_atT {K : PySem.W.Frag} {σ : L2.St} {H : Hp} {tl ti : TE} {t : Addr} {xs : List V} {n : Int} {v : V} (h : Ev tl σ H (.ref t)) (hT : SqT K H t xs) (hi : Ev ti σ H (.int n)) (ha : atI xs n = some v) : Ev (tOp (rIxT K) tl ti) σ H v := fun H1 e Q q =>
  h H1 e _ fun H2 e2 => hi H2 (e.trans e2) _ fun H3 e3 => ⟨t, xs, n, v, rfl, rfl, ex_t ((e.trans e2).trans e3) hT, ha, q H3 (e2.trans e3)⟩
local macro_rules | `(tactic| walk_at "side") => `(tactic| first
  | omega
  | (show CDivW _ _; exact ⟨by omega, by decide⟩)
  | (show CDivW _ _; exact wide_div (b := 80) (by omega) (by omega) (by decide) (by decide)))
local macro_rules | `(tactic| walk_at "evown") => `(tactic| (refine' ev_int1 ?h1; (case h1 => walk_at "ev")))
/-- numbers from 0 on, as such -/
def cs (ds : List Nat) : List Int := ds.map fun d : Nat => (d : Int)
theorem cs_of {ns : List Int} {b : Int} (h : ∀ n ∈ ns, 0 ≤ n ∧ n < b) : ∃ ds : List Nat, ns = cs ds ∧ ds.length = ns.length ∧ ∀ d ∈ ds, (d : Int) < b := by
  refine ⟨ns.map Int.toNat, ?_, List.length_map .., fun d hd => ?_⟩
  · unfold cs
    rw [List.map_map]
    conv => lhs; rw [← List.map_id ns]
    refine List.map_congr_left fun n hn => ?_
    have := (h n hn).1
    show n = ((n.toNat : Nat) : Int)
    omega
  · obtain ⟨n, hn, rfl⟩ := List.mem_map.mp hd
    have := h n hn
    omega
theorem cs_len (ds : List Nat) : (cs ds).length = ds.length := List.length_map ..
theorem cs_at {ds : List Nat} {i : Nat} {d : Nat} (h : ds[i]? = some d) : (cs ds)[i]? = some (d : Int) := by unfold cs; rw [List.getElem?_map, h]; rfl
theorem cs_take (ds : List Nat) (i : Nat) : (cs ds).take i = cs (ds.take i) := by unfold cs; rw [List.map_take]
theorem cs_drop (ds : List Nat) (i : Nat) : (cs ds).drop i = cs (ds.drop i) := by unfold cs; rw [List.map_drop]
theorem cs_append (ds es : List Nat) : cs (ds ++ es) = cs ds ++ cs es := List.map_append ..

/-- numbers of the law -/
def sp_draw : Sp := fun vs H Q _ => ∃ c m b : Int, vs = [.int c, .int m, .int b] ∧ 0 ≤ m ∧ m ≤ 5000 ∧ 0 < b ∧ b ≤ 2 ^ 64 ∧ ∀ p (ns : List Int) H', H p = none → Ex H H' → H' p = some (.lst (ns.map V.int)) → (ns.length : Int) = m → (∀ n ∈ ns, 0 ≤ n ∧ n < b) → Q (.ref p) H'
theorem ok_law_draw (T : TX K mg) : FnOk P w K mg base CX0 1 T.a_law_draw T.d_law_draw ["cell", "many", "bound"] sp_draw := by
  refine T.F_law_draw.ok sc_law_draw (fun vs H Q E h => by obtain ⟨c, m, b, rfl, _⟩ := h; rfl) (fun cdv A outer s H vs Q E hr h => ?_)
  obtain ⟨c, m, b, rfl, hm0, hm, hb0, hb, k⟩ := h
  have hb' : b ≤ 18446744073709551616 := hb
  refine ⟨_, (pss_cons (ps_set (i := 3) sc_law_draw.nd rfl (Or.inl rfl) (pe_lst pa_nil))
      (pss_cons (ps_if (pt_cmpR op_ge (pv 0) (pe_op op_pow pe_int pe_int) (nomark _)) (pss_cons (ps_for PassesOwn.never rfl (pi_range1 (by rfl) T.m_range (pa_cons (pv 1) pa_nil)) (pg_name (i := 4) sc_law_draw.nd rfl (Or.inl rfl)) (pss_cons (ps_expr (pe_bm PySem.F.plainAttrs_list PySem.F.slot_list_append PySem.F.type_list_append mt_append (pv 3) (pa_cons (pe_op op_mod (pe_callTy call_int1 (by rfl) T.m_int PyProof.Rows.boot_int (pa_cons (pv 0) pa_nil)) (pv 2)) pa_nil)))
          (pss_one (ps_set (i := 0) sc_law_draw.nd rfl (Or.inl rfl) (pe_op op_fdivW (pv 0) (pv 2))))))
        (pss_one (ps_ret (pv 3)))) pss_nil)
      (pss_cons (ps_set (i := 5) sc_law_draw.nd rfl (Or.inl rfl) (pe_op op_mod (pe_callTy call_int1 (by rfl) T.m_int PyProof.Rows.boot_int (pa_cons (pv 0) pa_nil)) pe_int))
      (pss_cons (ps_for PassesOwn.never rfl (pi_range1 (by rfl) T.m_range (pa_cons (pv 1) pa_nil)) (pg_name (i := 4) sc_law_draw.nd rfl (Or.inl rfl)) (pss_cons (ps_set (i := 5) sc_law_draw.nd rfl (Or.inl rfl) (pe_op op_mod (pe_callTy call_int1 (by rfl) T.m_int PyProof.Rows.boot_int (pa_cons (pe_op op_add (pe_op op_add (pe_op op_mul (pv 5) pe_int) pe_int) (pv 4)) pa_nil)) pe_int))
        (pss_cons (ps_set (i := 6) sc_law_draw.nd rfl (Or.inl rfl) (pe_op op_mod (pe_callTy call_int1 (by rfl) T.m_int PyProof.Rows.boot_int (pa_cons (pe_op op_add (pe_op op_mul (pv 5) pe_int) (pe_op op_mul pe_int (pv 4))) pa_nil)) pe_int))
        (pss_one (ps_expr (pe_bm PySem.F.plainAttrs_list PySem.F.slot_list_append PySem.F.type_list_append mt_append (pv 3) (pa_cons (pe_op op_mod (pe_callTy call_int1 (by rfl) T.m_int PyProof.Rows.boot_int (pa_cons (pe_op op_fdivW (pv 6) pe_int) pa_nil)) (pv 2)) pa_nil)))))))
      (pss_one (ps_ret (pv 3))))))), ?_⟩
  refine q_asgL (xs := []) (el_lst ea_nil (by decide)) fun p H1 hp e1 h1 => ?_
  refine' q_when (et_test (ev_I0 ?h1 ?h2)) ?_ ?_
  case h1 => walk_at "ev"
  case h2 => exact ev_I (ev_c) (ev_c) ⟨by decide, by decide, by decide⟩
  · intro _ H2 e2
    refine q_forR1 (n := m) (ea_cons (ev_var rfl) ea_nil) ⟨hm0, by omega⟩ (fun i σ' H' => ∃ (c' : Int) (k' : Option V) (ns : List Int), σ' = [some (.int c'), some (.int m), some (.int b), some (.ref p), k', none, none] ∧ Ex H H' ∧ H' p = some (.lst (ns.map V.int)) ∧ ns.length = i ∧ ∀ n ∈ ns, 0 ≤ n ∧ n < b)
      (fun H3 e3 => ⟨c, none, [], rfl, (e1.trans e2).trans e3, e3 _ _ (e2 _ _ h1), rfl, fun n hn => by cases hn⟩) ?_ ?_
    · rintro i σ' H' hi ⟨c', k', ns, rfl, ex, hl, hn, hns⟩
      refine q_app (v := .int (c' % b)) hl (ev_var rfl) (ev_I (ev_int1 (ev_var rfl)) (ev_var rfl) hb0) (by rw [List.length_map]; omega) fun H3 e3 => ?_
      refine s_asg (v := .int (c' / b)) (ev_I (ev_var rfl) (ev_var rfl) (by walk_at "side")) fun H4 e4 => ?_
      refine ⟨c' / b, some (.int i), ns ++ [c' % b], rfl, (Ex.mut (ex.trans e3) hp).trans e4, e4 _ _ (by rw [upd_same, List.map_append]; rfl), by rw [List.length_append, hn]; rfl, fun n hn => ?_⟩
      rcases List.mem_append.mp hn with h | h
      · exact hns n h
      · cases List.mem_singleton.mp h
        exact ⟨Int.emod_nonneg _ (by omega), Int.emod_lt_of_pos _ hb0⟩
    · rintro σ' H' ⟨c', k', ns, rfl, ex, hl, hn, hns⟩
      walk_at "ret"
      intro H3 e3
      exact k p ns H3 hp (ex.trans e3) (e3 _ _ hl) (by omega) hns
  · intro _ H2 e2
    refine q_asg (v := .int (c % 2147483647)) (ev_I (ev_int1 (ev_var rfl)) ev_c (by decide)) fun H3 e3 => ?_
    refine q_forR1 (n := m) (ea_cons (ev_var rfl) ea_nil) ⟨hm0, by omega⟩ (fun i σ' H' => ∃ (k' x : Option V) (sd : Int) (ns : List Int), σ' = [some (.int c), some (.int m), some (.int b), some (.ref p), k', some (.int sd), x] ∧ Ex H H' ∧ H' p = some (.lst (ns.map V.int)) ∧ ns.length = i ∧ ∀ n ∈ ns, 0 ≤ n ∧ n < b)
      (fun H4 e4 => ⟨none, none, _, [], rfl, ((e1.trans e2).trans e3).trans e4, e4 _ _ (e3 _ _ (e2 _ _ h1)), rfl, fun n hn => by cases hn⟩) ?_ ?_
    · rintro i σ' H' hi ⟨k', x, sd, ns, rfl, ex, hl, hn, hns⟩
      refine q_asg (v := .int ((sd * 48271 + 12345 + (i : Int)) % 2147483647)) (ev_I (ev_int1 (ev_I0 (ev_I0 (ev_I (ev_var rfl) ev_c (.inr (by decide))) ev_c) (ev_var rfl))) ev_c (by decide)) fun H4 e4 => ?_
      generalize (sd * 48271 + 12345 + (i : Int)) % 2147483647 = sd2
      refine q_asg (v := .int ((sd2 * 69621 + 977 * (i : Int)) % 2147483629)) (ev_I (ev_int1 (ev_I0 (ev_I (ev_var rfl) ev_c (.inr (by decide))) (ev_I ev_c (ev_var rfl) (.inl (by decide))))) ev_c (by decide)) fun H5 e5 => ?_
      generalize (sd2 * 69621 + 977 * (i : Int)) % 2147483629 = mx
      refine s_app (v := .int (mx / 3 % b)) (e5 _ _ (e4 _ _ hl)) (ev_var rfl) (ev_I (ev_int1 (ev_I (ev_var rfl) ev_c ⟨by decide, by decide⟩)) (ev_var rfl) hb0) (by rw [List.length_map]; omega) fun H6 e6 => ?_
      refine ⟨_, _, sd2, ns ++ [mx / 3 % b], rfl, Ex.mut (((ex.trans e4).trans e5).trans e6) hp, by rw [upd_same, List.map_append]; rfl, by rw [List.length_append, hn]; rfl, fun n hn => ?_⟩
      rcases List.mem_append.mp hn with h | h
      · exact hns n h
      · cases List.mem_singleton.mp h
        exact ⟨Int.emod_nonneg _ (by omega), Int.emod_lt_of_pos _ hb0⟩
    · rintro σ' H' ⟨k', x, sd, ns, rfl, ex, hl, hn, hns⟩
      walk_at "ret"
      intro H4 e4
      exact k p ns H4 hp (ex.trans e4) (e4 _ _ hl) (by omega) hns

/-! ### objects: fields, methods, making -/
section
variable {K : PySem.W.Frag} {σ : L2.St} {H : Hp} {to te tv : TE} {a C : Addr} {dx : Addr} {fs : List (Str × V)} {f m : Str} {v : V} {D : Ends} {tz : TS} {sp : Sp} {dvs vs : List V} {E : XK} {t : TA}
theorem ev_fld (c : Cls K C) (hn : NoAttr K C f) (h : Ev to σ H (.ref a)) (hx : H a = some (.ins C dx fs)) (hl : fs.lookup f = some v) : Ev (tFld K to f) σ H v := fun H1 e Q q => h H1 e _ fun H2 e2 => ⟨a, C, dx, fs, v, rfl, (e.trans e2) _ _ hx, c, hn, hl, q H2 e2⟩
theorem q_fld (c : Cls K C) (hn : NoAttr K C f) (hv : Ev tv σ H v) (h : Ev to σ H (.ref a)) (hx : H a = some (.ins C dx fs)) (hl : fs.length < 1000) (k : ∀ H1, Ex H H1 → tz D σ (upd H1 a (.ins C dx (putF f v fs)))) : tSeq (sFld K to tv f) tz D σ H :=
  hv H (Ex.refl H) _ fun H1 e1 => h H1 e1 _ fun H2 e2 => ⟨a, C, dx, fs, rfl, (e1.trans e2) _ _ hx, c, hn, hl, k H2 (e1.trans e2)⟩
theorem s_fld (c : Cls K C) (hn : NoAttr K C f) (hv : Ev tv σ H v) (h : Ev to σ H (.ref a)) (hx : H a = some (.ins C dx fs)) (hl : fs.length < 1000) (k : ∀ H1, Ex H H1 → D.nx σ (upd H1 a (.ins C dx (putF f v fs)))) : sFld K to tv f D σ H :=
  hv H (Ex.refl H) _ fun H1 e1 => h H1 e1 _ fun H2 e2 => ⟨a, C, dx, fs, rfl, (e1.trans e2) _ _ hx, c, hn, hl, k H2 (e1.trans e2)⟩
theorem q_fldL {xs : List V} (c : Cls K C) (hn : NoAttr K C f) (hv : EvL tv σ H xs) (h : ∀ H1, Ex H H1 → Ev to σ H1 (.ref a)) (hx : H a = some (.ins C dx fs)) (hl : fs.length < 1000) (k : ∀ p H1, H p = none → Ex H H1 → H1 p = some (.lst xs) → tz D σ (upd H1 a (.ins C dx (putF f (.ref p) fs)))) : tSeq (sFld K to tv f) tz D σ H :=
  hv H (Ex.refl H) _ fun p H1 hp e1 g1 => h H1 e1 H1 (Ex.refl H1) _ fun H2 e2 => ⟨a, C, dx, fs, rfl, (e1.trans e2) _ _ hx, c, hn, hl, k p H2 hp (e1.trans e2) (e2 _ _ g1)⟩
/-- o.m(..), whatever m promises -/
theorem mth (h : Ev to σ H (.ref a)) (hx : H a = some (.ins C dx fs)) (hm : fs.lookup m = none) (ha : EvA t σ H vs) {Q : VK} (k : ∀ H1, Ex H H1 → sp (.ref a :: (vs ++ dvs)) H1 Q E) : tMeth C m sp dvs E to t σ H Q :=
  h H (Ex.refl H) _ fun H1 e1 => ⟨a, dx, fs, rfl, e1 _ _ hx, hm, ha H1 e1 _ fun H2 e2 => k H2 (e1.trans e2)⟩
theorem q_dropM (h : Ev to σ H (.ref a)) (hx : H a = some (.ins C dx fs)) (hm : fs.lookup m = none) (ha : EvA t σ H vs) (k : ∀ H1, Ex H H1 → sp (.ref a :: (vs ++ dvs)) H1 (fun _ H2 => tz D σ H2) E) : tSeq (tDrop (tMeth C m sp dvs E to t)) tz D σ H := mth h hx hm ha k
theorem s_dropM (h : Ev to σ H (.ref a)) (hx : H a = some (.ins C dx fs)) (hm : fs.lookup m = none) (ha : EvA t σ H vs) (k : ∀ H1, Ex H H1 → sp (.ref a :: (vs ++ dvs)) H1 (fun _ H2 => D.nx σ H2) E) : tDrop (tMeth C m sp dvs E to t) D σ H := mth h hx hm ha k
theorem q_asgM {i : Nat} (h : Ev to σ H (.ref a)) (hx : H a = some (.ins C dx fs)) (hm : fs.lookup m = none) (ha : EvA t σ H vs) (k : ∀ H1, Ex H H1 → sp (.ref a :: (vs ++ dvs)) H1 (fun x H2 => tz D (σ.set i (some x)) H2) E) : tSeq (tAsg (tMeth C m sp dvs E to t) (gName i)) tz D σ H := mth h hx hm ha k
theorem s_retM (h : Ev to σ H (.ref a)) (hx : H a = some (.ins C dx fs)) (hm : fs.lookup m = none) (ha : EvA t σ H vs) (k : ∀ H1, Ex H H1 → sp (.ref a :: (vs ++ dvs)) H1 D.rt E) : tRet (tMeth C m sp dvs E to t) D σ H := mth h hx hm ha k
/-- a method that changes nothing and gives a value -/
theorem ev_mth (h : Ev to σ H (.ref a)) (hx : H a = some (.ins C dx fs)) (hm : fs.lookup m = none) (ha : EvA t σ H vs) (k : SpV sp (.ref a :: (vs ++ dvs)) H v) : Ev (tMeth C m sp dvs E to t) σ H v := fun H1 e Q q =>
  h H1 e _ fun H2 e2 => ⟨a, dx, fs, rfl, (e.trans e2) _ _ hx, hm, ha H2 (e.trans e2) _ fun H3 e3 => k H3 ((e.trans e2).trans e3) Q (fun H4 e4 => q H4 ((e2.trans e3).trans e4)) E⟩
end
theorem fresh_ne {H : Hp} {p q : Addr} {o : HO} (hp : H p = none) (hq : H q = some o) : q ≠ p := ne_of_none hq hp
theorem bitNot_eq (x : Int) : Builtin.bitNot x = -x - 1 := rfl
theorem bitAnd_maskZ (x : Int) (k : Nat) : Builtin.bitAnd x (2 ^ k - 1) = x % 2 ^ k := by
  by_cases h : 0 ≤ x
  · exact _root_.Bits.bitAnd_mask k h
  · have hp : (1 : Int) ≤ 2 ^ k := by
      have : 0 < 2 ^ k := Nat.two_pow_pos k
      have h2 : ((2 : Int) ^ k) = ((2 ^ k : Nat) : Int) := by rw [Int.natCast_pow]; rfl
      omega
    rw [PyProof.Rows.bitAnd_np h (by omega), Nat.and_comm]
    have h2 : ((2 : Int) ^ k) = ((2 ^ k : Nat) : Int) := by rw [Int.natCast_pow]; rfl
    have h3 : ((2 : Int) ^ k - 1).toNat = 2 ^ k - 1 := by omega
    rw [h3, Nat.and_two_pow_sub_one_eq_mod, bitNot_eq]
    have h4 : ((-x - 1).toNat : Int) = -x - 1 := by omega
    rw [h2, Int.natCast_emod, h4]
    generalize 2 ^ k = m at *
    have hm : (0 : Int) < (m : Int) := by omega
    have e1 := Int.emod_add_mul_ediv x m
    have e2 := Int.emod_add_mul_ediv (-x - 1) m
    have a1 := Int.emod_nonneg x (by omega : (m : Int) ≠ 0)
    have a2 := Int.emod_lt_of_pos x hm
    have b1 := Int.emod_nonneg (-x - 1) (by omega : (m : Int) ≠ 0)
    have b2 := Int.emod_lt_of_pos (-x - 1) hm
    generalize x % (m : Int) = r at *
    generalize (-x - 1) % (m : Int) = s at *
    generalize x / (m : Int) = p at *
    generalize (-x - 1) / (m : Int) = q at *
    -- r + s + 1 is a multiple of m between 1 and 2m - 1
    have e3 : r + s + 1 = m * (-(p + q)) := by
      rw [Int.mul_neg, Int.mul_add]
      omega
    have h5 : -(p + q) = 1 := by
      have c1 : 0 < (m : Int) * (-(p + q)) := by omega
      have c2 : (m : Int) * (-(p + q)) < m * 2 := by omega
      have c3 := Int.pos_of_mul_pos_right (a := (m : Int)) (b := -(p + q)) (by exact c1) hm
      have c4 : -(p + q) < 2 := Int.lt_of_mul_lt_mul_left c2 (by omega)
      omega
    rw [h5, Int.mul_one] at e3
    omega
theorem q_fldaugI {K : PySem.W.Frag} {σ : L2.St} {H : Hp} {to tv : TE} {a C dx : Addr} {fs : List (Str × V)} {f : Str} {i j : Int} {D : Ends} {tz : TS} (c : Cls K C) (hn : NoAttr K C f) (h : Ev to σ H (.ref a)) (hx : H a = some (.ins C dx fs)) (hl : fs.lookup f = some (.int i)) (hv : Ev tv σ H (.int j)) (hz : fs.length < 1000)
    (k : ∀ H1, Ex H H1 → tz D σ (upd H1 a (.ins C dx (putF f (.int (i + j)) fs)))) : tSeq (sFldAug K to tv rAdd f) tz D σ H :=
  h H (Ex.refl H) _ fun H1 e1 => ⟨a, C, dx, fs, .int i, rfl, e1 _ _ hx, c, hn, hl, hv H1 e1 _ fun H2 e2 => ⟨i, j, rfl, rfl, dx, fs, (e1.trans e2) _ _ hx, hz, k H2 (e1.trans e2)⟩⟩
/-- [e for j in range(n)] whose element changes objects -/
theorem tlc_rngM {ta : TA} {te : TE} {vs : List Nat} {n : Int} {j : Nat} {σ : L2.St} {H : Hp} {Q : VK} (h : EvA ta σ H [.int n]) (hn : -100000 ≤ n ∧ n ≤ 100000)
    (k : ∀ H1, Ex H H1 → ∀ Dl, H1 Dl = none → ∃ Pv : Nat → Hp → Prop, Pv 0 (upd H1 Dl (.lst [])) ∧ (∀ (i : Nat) H', i < n.toNat → Pv i H' → wipe ((wipe σ vs).set j (some (.int (i : Int)))) vs = wipe σ vs ∧ te ((wipe σ vs).set j (some (.int (i : Int)))) H' fun y H4 => ∃ acc, H4 Dl = some (.lst acc) ∧ acc.length < sizeLine ∧ Pv (i + 1) (upd H4 Dl (.lst (acc ++ [y])))) ∧ (∀ H', Pv n.toNat H' → Q (.ref Dl) H')) :
    tLc (iRng1 ta) (gName j) tYes te vs σ H Q := h H (Ex.refl H) _ fun H1 e1 => ⟨n, rfl, by omega, by omega, fun Dl hD => by
  obtain ⟨Pv, h0, hs, hd⟩ := k H1 e1 Dl hD
  refine lc_range (lo := 0) (n := n.toNat) Pv h0 (fun i H' hi p => ?_) hd
  rw [Int.zero_add]
  exact hs i H' hi p⟩

theorem rs4 (n : Nat) : Builtin.Range.rangeSize 0 ((4 * n : Nat) : Int) 4 = (n : Int) := by
  unfold Builtin.Range.rangeSize
  rw [if_pos (by decide)]
  split <;> omega
theorem rg4 {n : Nat} (h : n ≤ 10000) : RgC 0 ((4 * n : Nat) : Int) 4 n := by
  refine ⟨by decide, by decide, ?_, rs4 n⟩
  unfold Builtin.Range.small
  rw [rs4]
  have f : ∀ x : Int, 0 ≤ x → x ≤ 1000000 → Builtin.Range.rangeFitsLong x = true := fun x h1 h2 => by
    unfold Builtin.Range.rangeFitsLong
    rw [Bool.and_eq_true]
    exact ⟨decide_eq_true (by omega), decide_eq_true (by omega)⟩
  rw [f 0 (by decide) (by decide), f _ (by omega) (by omega), f 4 (by decide) (by decide), f (n : Int) (by omega) (by omega), if_pos (by decide), f _ (by omega) (by omega), Bool.or_true]
  rfl
theorem rs8 (n : Nat) : Builtin.Range.rangeSize 0 ((8 * n : Nat) : Int) 8 = (n : Int) := by
  unfold Builtin.Range.rangeSize
  rw [if_pos (by decide)]
  split <;> omega
theorem rg8 {n : Nat} (h : n ≤ 10000) : RgC 0 ((8 * n : Nat) : Int) 8 n := by
  refine ⟨by decide, by decide, ?_, rs8 n⟩
  unfold Builtin.Range.small
  rw [rs8]
  have f : ∀ x : Int, 0 ≤ x → x ≤ 1000000 → Builtin.Range.rangeFitsLong x = true := fun x h1 h2 => by
    unfold Builtin.Range.rangeFitsLong
    rw [Bool.and_eq_true]
    exact ⟨decide_eq_true (by omega), decide_eq_true (by omega)⟩
  rw [f 0 (by decide) (by decide), f _ (by omega) (by omega), f 8 (by decide) (by decide), f (n : Int) (by omega) (by omega), if_pos (by decide), f _ (by omega) (by omega), Bool.or_true]
  rfl
theorem rs64 (n : Nat) : Builtin.Range.rangeSize 0 ((64 * n : Nat) : Int) 64 = (n : Int) := by
  unfold Builtin.Range.rangeSize
  rw [if_pos (by decide)]
  split <;> omega
theorem rg64 {n : Nat} (h : n ≤ 10000) : RgC 0 ((64 * n : Nat) : Int) 64 n := by
  refine ⟨by decide, by decide, ?_, rs64 n⟩
  unfold Builtin.Range.small
  rw [rs64]
  have f : ∀ x : Int, 0 ≤ x → x ≤ 1000000 → Builtin.Range.rangeFitsLong x = true := fun x h1 h2 => by
    unfold Builtin.Range.rangeFitsLong
    rw [Bool.and_eq_true]
    exact ⟨decide_eq_true (by omega), decide_eq_true (by omega)⟩
  rw [f 0 (by decide) (by decide), f _ (by omega) (by omega), f 64 (by decide) (by decide), f (n : Int) (by omega) (by omega), if_pos (by decide), f _ (by omega) (by omega), Bool.or_true]
  rfl
theorem q_forRC {σ : L2.St} {H : Hp} {D : Ends} {tu tz : TS} {ta : TA} {j n : Nat} {a b c : Int} (h : EvA ta σ H [.int a, .int b, .int c]) (hr : RgC a b c n) (Pv : Nat → L2.St → Hp → Prop) (h0 : ∀ H1, Ex H H1 → Pv 0 σ H1)
    (hs : ∀ i σ' H', i < n → Pv i σ' H' → tu { nx := Pv (i + 1), rt := D.rt, bk := tz D, ct := Pv (i + 1) } (σ'.set j (some (.int (a + (i : Nat) * c)))) H') (hd : ∀ σ' H', Pv n σ' H' → tz D σ' H') : tSeq (tFor (iRng3 ta) (gName j) tu) tz D σ H :=
  h H (Ex.refl H) _ fun H1 e1 => ⟨a, b, c, n, rfl, hr, for_rangeC Pv (h0 H1 e1) hs hd⟩
/-- a tuple that is read -/
def EvP (K : PySem.W.Frag) (te : TE) (σ : L2.St) (H : Hp) (xs : List V) : Prop := ∀ H1, Ex H H1 → ∀ Q : VK, (∀ p H2, Ex H1 H2 → SqT K H2 p xs → Q (.ref p) H2) → te σ H1 Q
theorem Ev.p {te : TE} {σ : L2.St} {H : Hp} {a : Addr} {xs : List V} (h : Ev te σ H (.ref a)) (hx : SqT K H a xs) : EvP K te σ H xs := fun H1 e Q q => h H1 e Q fun H2 e2 => q a H2 e2 (ex_t e2 (ex_t e hx))
theorem EvU.p {te : TE} {σ : L2.St} {H : Hp} {xs : List V} (h : EvU te σ H xs) : EvP K te σ H xs := fun H1 e Q q => h H1 e Q fun p H2 _ e2 g => q p H2 e2 (st_of g)
theorem eu_tupOf {te : TE} {σ : L2.St} {H : Hp} {xs : List V} (h : EvS K te σ H xs) : EvU (tCB (fun xs H Q => ∃ p ys, xs = [.ref p] ∧ ((SqL K H p ys ∧ ∀ l, H l = none → Q (.ref l) (upd H l (.tup ys))) ∨ (SqT K H p ys ∧ Q (.ref p) H))) (tCons te tNil)) σ H xs := fun H1 e Q q =>
  h H1 e _ fun p H2 e2 hp => ⟨p, xs, rfl, .inl ⟨hp, fun l hl => q l _ (by cases hh : H1 l with | none => rfl | some o => rw [e2 _ _ hh] at hl; cases hl) (e2.trans (Ex.new hl)) upd_same⟩⟩
theorem el_lcC {σ : L2.St} {H : Hp} {ta : TA} {te : TE} {vs : List Nat} {j n : Nat} {a b c : Int} (zs : List V) (h1 : EvA ta σ H [.int a, .int b, .int c]) (hr : RgC a b c n) (hz : zs.length = n) (hb : zs.length ≤ 50000) (hw : ∀ x, wipe ((wipe σ vs).set j (some x)) vs = wipe σ vs)
    (he : ∀ (i : Nat) H1, Ex H H1 → i < n → ∃ z, zs[i]? = some z ∧ Ev te ((wipe σ vs).set j (some (.int (a + (i : Nat) * c)))) H1 z) : EvL (tLc (iRng3 ta) (gName j) tYes te vs) σ H zs := fun H0 e Q q =>
  h1 H0 e _ fun H1 e1 => ⟨a, b, c, n, rfl, hr, fun D hD => lc_it walk_rangeC (fun i H' => Ex H1 H' ∧ H' D = some (.lst (zs.take i))) ⟨Ex.new hD, upd_same⟩ (fun _ _ _ _ => trivial) (by
    rintro i x H' H'' hi ⟨ex, hd⟩ ⟨rfl, rfl⟩
    obtain ⟨z, hz1, hz2⟩ := he i H'' ((e.trans e1).trans ex) hi
    refine ⟨hw _, ?_⟩
    refine hz2 _ (Ex.refl _) _ fun H4 e4 => ⟨zs.take i, e4 _ _ hd, sz_lt (by rw [List.length_take]; omega), ?_, ?_⟩
    · exact Ex.mut (ex.trans e4) hD
    · rw [upd_same, take_snoc hz1]) fun H' ⟨ex, hd⟩ => by
      rw [← hz, List.take_length] at hd
      exact q D H' (fresh_back e1 hD) (e1.trans ex) hd⟩
/-- over zip of two tuples -/
theorem el_lcZT {σ : L2.St} {H : Hp} {t1 t2 te : TE} {xs ys : List V} {vs : List Nat} {j1 j2 : Nat} (zs : List V) (h1 : EvP K t1 σ H xs) (h2 : EvP K t2 σ H ys) (hz : zs.length = min xs.length ys.length) (hb : zs.length ≤ 50000)
    (hw : ∀ x y, wipe (((wipe σ vs).set j1 (some x)).set j2 (some y)) vs = wipe σ vs)
    (he : ∀ (i : Nat) (x y : V) H1, Ex H H1 → xs[i]? = some x → ys[i]? = some y → ∃ z, zs[i]? = some z ∧ Ev te (((wipe σ vs).set j1 (some x)).set j2 (some y)) H1 z) :
    EvL (tLc (RZ.iZipA K (tCons t1 (tCons t2 tNil))) (gTup K 2 (gCons (gName j1) (gCons (gName j2) gNil))) tYes te vs) σ H zs := fun H0 e Q q =>
  h1 H0 e _ fun p H1 e1 hp => h2 H1 (e.trans e1) _ fun r H2 e2 hr => ⟨p, r, xs, ys, rfl, .inr ⟨ex_t e2 hp, hr, fun D hD =>
    ⟨fun i m H' => m = zs.length - i ∧ i ≤ zs.length ∧ Ex H2 H' ∧ H' D = some (.lst (zs.take i)), ⟨zs.length, rfl, Nat.zero_le _, Ex.new hD, upd_same⟩, by
      rintro i m H' ⟨rfl, hi, ex, hd⟩
      have qx : SqT K H' p xs := ex_t (e2.trans ex) hp
      have qy : SqT K H' r ys := ex_t ex hr
      by_cases hlt : i < zs.length
      · have hx : xs[i]? = some xs[i] := List.getElem?_eq_getElem (by omega)
        have hy : ys[i]? = some ys[i] := List.getElem?_eq_getElem (by omega)
        refine .inr ⟨⟨xs, ys, _, _, qx, qy, hx, hy⟩, fun H3 => i + 1 ≤ zs.length ∧ Ex H2 H3 ∧ H3 D = some (.lst (zs.take (i + 1))), fun H3 h3 => ⟨zs.length - (i + 1), by omega, rfl, h3⟩, fun v H3 hv => ?_⟩
        obtain ⟨T, x, y, rfl, hT, rfl, f1, f2⟩ := hv
        have ex3 : Ex H' (upd H' T (.tup [x, y])) := Ex.new hT
        obtain ⟨z, hz1, hz2⟩ := he i x y (upd H' T (.tup [x, y])) ((((e.trans e1).trans e2).trans ex).trans ex3) (f1 _ qx) (f2 _ qy)
        refine ⟨T, [x, y], rfl, st_of upd_same, rfl, x, [y], rfl, y, [], rfl, rfl, hw x y, ?_⟩
        refine hz2 _ (Ex.refl _) _ fun H4 e4 => ⟨zs.take i, e4 _ _ (ex3 _ _ hd), sz_lt (by rw [List.length_take]; omega), hlt, ?_, ?_⟩
        · exact Ex.mut ((ex.trans ex3).trans e4) hD
        · rw [upd_same, take_snoc hz1]
      · have ei : i = zs.length := by omega
        refine .inl ⟨⟨xs, ys, qx, qy, by omega⟩, ?_⟩
        rw [ei, List.take_length] at hd
        exact q D H' (fresh_back (e1.trans e2) hD) ((e1.trans e2).trans ex) hd⟩⟩⟩
theorem take_snocI {zs : List Int} {i : Nat} {z : Int} (h : zs[i]? = some z) : zs.take (i + 1) = zs.take i ++ [z] := by
  rw [List.take_add_one, h]
  rfl
theorem fresh_ne' {H : Hp} {p q : Addr} {o : HO} (hp : H p = none) (hq : H q = some o) : q ≠ p := ne_of_none hq hp
/-- [b for w in tuple for b in f(w)] -/
theorem el_lc2 {σ : L2.St} {H : Hp} {t1 t2 te : TE} {i0 i1 : Nat} {vs vs1 : List Nat} (ws : List Int) (f : Int → List Int) (h1 : EvP K t1 σ H (ws.map V.int)) (hw : ∀ x, wipe ((wipe σ vs).set i0 (some x)) vs = wipe σ vs)
    (hw1 : ∀ x y, wipe ((wipe ((wipe σ vs).set i0 (some x)) vs1).set i1 (some y)) vs1 = wipe ((wipe σ vs).set i0 (some x)) vs1) (hv : ∀ x y H1, Ev te ((wipe ((wipe σ vs).set i0 (some x)) vs1).set i1 (some y)) H1 y)
    (h2 : ∀ w H1, Ex H H1 → w ∈ ws → EvL t2 ((wipe σ vs).set i0 (some (.int w))) H1 ((f w).map V.int)) (hb : (ws.flatMap f).length ≤ 50000) :
    EvL (tLc2 (iTup K t1) (gName i0) tYes (iList K t2) (gName i1) tYes te vs vs1) σ H ((ws.flatMap f).map V.int) := fun H0 e Q q =>
  h1 H0 e _ fun p H1 e1 hp => ⟨p, rfl, ⟨_, hp⟩, fun D hD =>
    ⟨fun i m H' => m = ws.length - i ∧ i ≤ ws.length ∧ Ex H1 H' ∧ H' D = some (.lst (((ws.take i).flatMap f).map V.int)), ⟨ws.length, rfl, Nat.zero_le _, Ex.new hD, upd_same⟩, by
      rintro i m H' ⟨rfl, hi, ex, hd⟩
      have qx : SqT K H' p (ws.map V.int) := ex_t ex hp
      by_cases hlt : i < ws.length
      · have hx : ws[i]? = some ws[i] := List.getElem?_eq_getElem hlt
        have htk : (ws.take (i + 1)).flatMap f = (ws.take i).flatMap f ++ f ws[i] := by
          rw [List.take_add_one, hx]
          show ((ws.take i) ++ [ws[i]]).flatMap f = _
          rw [List.flatMap_append, List.flatMap_cons, List.flatMap_nil, List.append_nil]
        have hmem : ws[i] ∈ ws := List.getElem_mem hlt
        have hsplit : ws.flatMap f = (ws.take i).flatMap f ++ (f ws[i] ++ (ws.drop (i + 1)).flatMap f) := by
          rw [← List.append_assoc, ← htk, ← List.flatMap_append, List.take_append_drop]
        have hlen := congrArg List.length hsplit
        rw [List.length_append, List.length_append] at hlen
        refine .inr ⟨⟨_, _, qx, at_int hx⟩, fun H3 => Ex H1 H3 ∧ H3 D = some (.lst (((ws.take (i + 1)).flatMap f).map V.int)), fun H3 h3 => ⟨ws.length - (i + 1), by omega, rfl, hlt, h3⟩, fun v H3 hv1 => ?_⟩
        obtain ⟨rfl, hv1⟩ := hv1
        have hv1 := hv1 _ qx
        rw [at_int hx] at hv1
        cases hv1
        generalize ws[i] = w0 at *
        refine ⟨hw _, ?_⟩
        refine h2 w0 H3 ((e.trans e1).trans ex) hmem H3 (Ex.refl _) _ fun r H4 hrn e4 hr => ⟨r, rfl, ⟨_, sq_of hr⟩, fun j k H' => k = (f w0).length - j ∧ j ≤ (f w0).length ∧ Ex H1 H' ∧ H' r = some (.lst ((f w0).map V.int)) ∧ H' D = some (.lst (((ws.take i).flatMap f ++ (f w0).take j).map V.int)), ⟨(f w0).length, rfl, Nat.zero_le _, ex.trans e4, hr, by rw [List.take_zero, List.append_nil]; exact e4 _ _ hd⟩, ?_⟩
        have hrD : r ≠ D := (fresh_ne' hrn hd).symm
        rintro j k H' ⟨rfl, hj, ex4, hr4, hd4⟩
        by_cases hjl : j < (f w0).length
        · have hy : (f w0)[j]? = some (f w0)[j] := List.getElem?_eq_getElem hjl
          refine .inr ⟨⟨_, _, sq_of hr4, at_int hy⟩, fun H5 => Ex H1 H5 ∧ H5 r = some (.lst ((f w0).map V.int)) ∧ H5 D = some (.lst (((ws.take i).flatMap f ++ (f w0).take (j + 1)).map V.int)), fun H5 h5 => ⟨(f w0).length - (j + 1), by omega, rfl, hjl, h5⟩, fun v H5 hv5 => ?_⟩
          obtain ⟨rfl, hv5⟩ := hv5
          have hv5 := hv5 _ (sq_of hr4)
          rw [at_int hy] at hv5
          cases hv5
          refine ⟨hw1 _ _, ?_⟩
          have he := hv (.int w0) (.int (f w0)[j]) H5
          refine he H5 (Ex.refl _) _ fun H6 e6 => ⟨_, e6 _ _ hd4, sz_lt (by rw [List.length_map, List.length_append, List.length_take]; omega), Ex.mut (ex4.trans e6) hD, ?_, ?_⟩
          · rw [upd_ne hrD]
            exact e6 _ _ hr4
          · rw [upd_same, take_snocI hy, ← List.append_assoc]
            exact congrArg (fun z => some (HO.lst z)) (List.map_append (f := V.int) (l₁ := (ws.take i).flatMap f ++ (f w0).take j) (l₂ := [(f w0)[j]])).symm
        · have ej : j = (f w0).length := by omega
          rw [ej, List.take_length, ← htk] at hd4
          exact .inl ⟨⟨_, sq_of hr4, by rw [List.length_map]; omega⟩, ex4, hd4⟩
      · have ei : i = ws.length := by omega
        refine .inl ⟨⟨_, qx, by rw [List.length_map]; omega⟩, ?_⟩
        rw [ei, List.take_length] at hd
        exact q D H' (fresh_back e1 hD) (e1.trans ex) hd⟩⟩

/-! ### MD5 as functions of integers -/
structure W4 where
  (a b c d : Int)
def W4.l (s : W4) : List Int := [s.a, s.b, s.c, s.d]
def fI (i : Nat) (b c d : Int) : Int :=
  if i < 16 then Builtin.bitOr (Builtin.bitAnd b c) (Builtin.bitAnd (Builtin.bitXor b 4294967295) d)
  else if i < 32 then Builtin.bitOr (Builtin.bitAnd d b) (Builtin.bitAnd (Builtin.bitXor d 4294967295) c)
  else if i < 48 then Builtin.bitXor (Builtin.bitXor b c) d else Builtin.bitXor c (Builtin.bitOr b (Builtin.bitXor d 4294967295))
def ixN (i : Nat) : Nat := if i < 16 then i else if i < 32 then (5 * i + 1) % 16 else if i < 48 then (3 * i + 5) % 16 else 7 * i % 16
theorem ixN_lt {i : Nat} (h : i < 64) : ixN i < 16 := by unfold ixN; split; · omega
                                                         split; · omega
                                                         split <;> omega
def rotL : List (List Int) := [[7, 12, 17, 22], [5, 9, 14, 20], [4, 11, 16, 23], [6, 10, 15, 21]]
def rotI (i : Nat) : Int := (rotL.getD (i / 16) []).getD (i % 4) 0
theorem rot_all : (List.range 64).all (fun i => decide (4 ≤ rotI i) && decide (rotI i ≤ 23)) = true := by decide +kernel
theorem rotI_le {i : Nat} (h : i < 64) : 4 ≤ rotI i ∧ rotI i ≤ 23 := by
  have := List.all_eq_true.mp rot_all i (List.mem_range.mpr h)
  rw [Bool.and_eq_true] at this
  exact ⟨of_decide_eq_true this.1, of_decide_eq_true this.2⟩
def cstL : List Int := [3614090360, 3905402710, 606105819, 3250441966, 4118548399, 1200080426, 2821735955, 4249261313, 1770035416, 2336552879, 4294925233, 2304563134, 1804603682, 4254626195, 2792965006, 1236535329, 4129170786, 3225465664, 643717713, 3921069994, 3593408605, 38016083, 3634488961, 3889429448, 568446438, 3275163606, 4107603335, 1163531501, 2850285829, 4243563512, 1735328473, 2368359562, 4294588738, 2272392833, 1839030562, 4259657740, 2763975236, 1272893353, 4139469664, 3200236656, 681279174, 3936430074, 3572445317, 76029189, 3654602809, 3873151461, 530742520, 3299628645, 4096336452, 1126891415, 2878612391, 4237533241, 1700485571, 2399980690, 4293915773, 2240044497, 1873313359, 4264355552, 2734768916, 1309151649, 4149444226, 3174756917, 718787259, 3951481745]
def stepI (ws : List Int) (i : Nat) (s : W4) : W4 :=
  ⟨s.d, Builtin.bitAnd (s.b + Builtin.bitOr (Builtin.bitAnd (s.a + fI i s.b s.c s.d + cstL.getD i 0 + ws.getD (ixN i) 0) 4294967295 * 2 ^ (rotI i).toNat) (Builtin.bitAnd (s.a + fI i s.b s.c s.d + cstL.getD i 0 + ws.getD (ixN i) 0) 4294967295 / 2 ^ (32 - rotI i).toNat)) 4294967295, s.b, s.c⟩
def itI (ws : List Int) (s : W4) : Nat → W4
  | 0 => s
  | i + 1 => stepI ws i (itI ws s i)
def blkI (s : W4) (ws : List Int) : W4 := ⟨Builtin.bitAnd (s.a + (itI ws s 64).a) 4294967295, Builtin.bitAnd (s.b + (itI ws s 64).b) 4294967295, Builtin.bitAnd (s.c + (itI ws s 64).c) 4294967295, Builtin.bitAnd (s.d + (itI ws s 64).d) 4294967295⟩
def wordN (bs : List Nat) (i : Nat) : Nat := bs.getD (4 * i) 0 + bs.getD (4 * i + 1) 0 * 2 ^ 8 + bs.getD (4 * i + 2) 0 * 2 ^ 16 + bs.getD (4 * i + 3) 0 * 2 ^ 24
def wordsI (bs : List Nat) : List Int := (List.range 16).map fun i => ((wordN bs i : Nat) : Int)
theorem wordsI_len (bs : List Nat) : (wordsI bs).length = 16 := rfl
def blksI (s : W4) (ds : List Nat) : Nat → W4
  | 0 => s
  | n + 1 => blkI (blksI s ds n) (wordsI ((ds.drop (64 * n)).take 64))
theorem blks_add (s : W4) (ds : List Nat) (n : Nat) : ∀ m, blksI s ds (n + m) = blksI (blksI s ds n) (ds.drop (64 * n)) m
  | 0 => rfl
  | m + 1 => by
    show blkI (blksI s ds (n + m)) _ = blkI (blksI _ _ m) _
    rw [blks_add s ds n m, List.drop_drop, ← Nat.mul_add]
    rfl
theorem blks_ext (s : W4) (ds es : List Nat) : ∀ n, 64 * n ≤ ds.length → blksI s (ds ++ es) n = blksI s ds n
  | 0, _ => rfl
  | n + 1, h => by
    show blkI (blksI s _ n) _ = blkI (blksI s _ n) _
    rw [blks_ext s ds es n (by omega), List.drop_append_of_le_length (by omega), List.take_append_of_le_length (by rw [List.length_drop]; omega)]
def w0 : W4 := ⟨1732584193, 4023233417, 2562383102, 271733878⟩
def lowB (n : Int) (c : Nat) : List Int := (List.range c).map fun i => n / 2 ^ (8 * i) % 256
def lowN (n c : Nat) : List Nat := (List.range c).map fun i => n / 2 ^ (8 * i) % 256
def padB (n : Nat) : List Nat := [128] ++ List.replicate ((55 + 64 * n - n) % 64) 0 ++ lowN (8 * n) 8
/-- what is left behind the whole blocks, and the state there -/
def whl (ds : List Nat) : Nat := ds.length / 64
def rest (ds : List Nat) : List Nat := ds.drop (64 * whl ds)
def stt (ds : List Nat) : W4 := blksI w0 ds (whl ds)
def digI (ds : List Nat) : List Int := (blksI (stt ds) (rest ds ++ padB ds.length) ((rest ds ++ padB ds.length).length / 64)).l.flatMap fun w => lowB w 4
theorem lowB_len (n : Int) (c : Nat) : (lowB n c).length = c := by unfold lowB; rw [List.length_map, List.length_range]
theorem lowN_len (n c : Nat) : (lowN n c).length = c := by unfold lowN; rw [List.length_map, List.length_range]
theorem lowN_lt (n c : Nat) : ∀ b ∈ lowN n c, b < 256 := fun b hb => by
  unfold lowN at hb
  obtain ⟨i, _, rfl⟩ := List.mem_map.mp hb
  exact Nat.mod_lt _ (by decide)
theorem lowB_N (n c : Nat) : lowB (n : Int) c = cs (lowN n c) := by
  unfold lowB lowN cs
  rw [List.map_map]
  refine List.map_congr_left fun i _ => ?_
  show (n : Int) / 2 ^ (8 * i) % 256 = ((n / 2 ^ (8 * i) % 256 : Nat) : Int)
  rw [Int.natCast_emod, Int.natCast_ediv, Int.natCast_pow]
  rfl
theorem padB_len (n : Nat) : (padB n).length = 9 + (55 + 64 * n - n) % 64 := by
  unfold padB
  rw [List.length_append, List.length_append, List.length_replicate, lowN_len]
  show 1 + _ + 8 = _
  omega
theorem padB_lt (n : Nat) : ∀ b ∈ padB n, b < 256 := fun b hb => by
  unfold padB at hb
  rcases List.mem_append.mp hb with h | h
  · rcases List.mem_append.mp h with h | h
    · rw [List.mem_singleton.mp h]
      decide
    · rw [List.eq_of_mem_replicate h]
      decide
  · exact lowN_lt _ _ b h
theorem rest_len (ds : List Nat) : (rest ds).length = ds.length % 64 := by unfold rest whl; rw [List.length_drop]; omega
theorem feed_rest (ds es : List Nat) : rest (ds ++ es) = (rest ds ++ es).drop (64 * ((rest ds ++ es).length / 64)) := by
  have h1 : 64 * whl ds ≤ ds.length := by unfold whl; omega
  have e : rest ds ++ es = (ds ++ es).drop (64 * whl ds) := by unfold rest; rw [List.drop_append_of_le_length h1]
  rw [e, List.drop_drop]
  unfold rest whl
  rw [List.length_drop]
  congr 1
  rw [List.length_append]
  omega
theorem feed_stt (ds es : List Nat) : stt (ds ++ es) = blksI (stt ds) (rest ds ++ es) ((rest ds ++ es).length / 64) := by
  have h1 : 64 * whl ds ≤ ds.length := by unfold whl; omega
  have e : rest ds ++ es = (ds ++ es).drop (64 * whl ds) := by unfold rest; rw [List.drop_append_of_le_length h1]
  have e2 : stt ds = blksI w0 (ds ++ es) (whl ds) := by unfold stt; rw [blks_ext _ _ _ _ h1]
  rw [e2, e, ← blks_add]
  unfold stt
  congr 1
  unfold whl
  rw [List.length_drop, List.length_append]
  omega

def FrA (a : Addr) (H H' : Hp) : Prop := ∀ b o, b ≠ a → H b = some o → H' b = some o
theorem FrA.ex {a : Addr} {H H1 : Hp} (h : Ex H H1) : FrA a H H1 := fun b o _ e => h b o e
theorem FrA.trans {a : Addr} {H H1 H2 : Hp} (h : FrA a H H1) (g : FrA a H1 H2) : FrA a H H2 := fun b o n e => g b o n (h b o n e)
theorem FrA.upd {a : Addr} {H H1 : Hp} {o : HO} (h : FrA a H H1) : FrA a H (upd H1 a o) := fun b p n e => by rw [upd_ne n]; exact h b p n e
def sp_low : Sp := fun vs H Q _ => ∃ (n : Int) (c : Nat), vs = [.int n, .int (c : Int)] ∧ c ≤ 1000 ∧ RetL ((lowB n c).map V.int) H Q
theorem ok_low_bytes (T : TX K mg) : FnOk P w K mg base CX0 1 T.a_low_bytes T.d_low_bytes ["number", "count"] sp_low := by
  refine T.F_low_bytes.ok sc_low_bytes (fun vs H Q E h => by obtain ⟨n, c, rfl, _⟩ := h; rfl) (fun cdv A outer s H vs Q E hr h => ?_)
  obtain ⟨n, c, rfl, hc, k⟩ := h
  refine ⟨_, (pss_one (ps_ret (pe_lc (own := [("shift", 2)]) (g := gName 2) (tt := tYes) rfl sc_low_bytes.nd (pi_range3 (by rfl) T.m_range (pa_cons pe_int (pa_cons (pe_op op_mul pe_int (pv 1)) (pa_cons pe_int pa_nil)))) (blkOk_by (N := ["number", "count", "shift"]) (sc := defScope s_low_bytes) (by decide +kernel)) (fun _ _ _ _ _ => pg_name (i := 2) sc_low_bytes.nd rfl (Or.inl rfl)) (fun _ _ _ _ _ => pts_nil) (fun _ _ _ _ _ => (pe_op op_and (pe_op op_shr (pv 0) (pv 2)) pe_int))))), ?_⟩
  refine s_retL (xs := (lowB n c).map V.int) (el_lcC (n := c) _ (ea_cons ev_c (ea_cons (Ev.is (ev_I ev_c (ev_var rfl) (.inl (by decide))) (congrArg V.int (a₂ := ((8 * c : Nat) : Int)) (by omega))) (ea_cons ev_c ea_nil))) (rg8 (by omega)) (by rw [List.length_map, lowB_len]) (by rw [List.length_map, lowB_len]; omega) (fun _ => rfl) fun i H1 e1 hi => ?_) k
  refine ⟨_, at_int (n := n / 2 ^ (8 * i) % 256) (by unfold lowB; rw [List.getElem?_map, List.getElem?_range hi]; rfl), Ev.is (ev_I0 (ev_I (j := ((8 * i : Nat) : Int)) (ev_var rfl) (Ev.is (ev_var rfl) (congrArg V.int (by omega))) (by show (0 : Int) ≤ _; omega)) ev_c) (congrArg V.int ?_)⟩
  rw [Int.toNat_natCast]
  exact bitAnd_maskZ _ 8
def sp_pad : Sp := fun vs H Q _ => ∃ (n : Nat), vs = [.int (n : Int)] ∧ n ≤ 1000000 ∧ RetL ((cs (padB n)).map V.int) H Q
theorem ok_padding (T : TX K mg) : FnOk P w K mg base CX0 2 T.a_padding T.d_padding ["length"] sp_pad := by
  refine T.F_padding.ok sc_padding (fun vs H Q E h => by obtain ⟨n, rfl, _⟩ := h; rfl) (fun cdv A outer s H vs Q E hr h => ?_)
  obtain ⟨n, rfl, hn, k⟩ := h
  refine ⟨_, (pss_one (ps_ret (pe_op op_cat (pe_op op_cat (pe_lst (pa_cons pe_int pa_nil)) (pe_op op_rep (pe_lst (pa_cons pe_int pa_nil)) (pe_op op_mod (pe_op op_sub pe_int (pv 0)) pe_int))) (pe_call (ok_low_bytes T) (hr.mono (by decide)) (by rfl) T.g_low_bytes T.F_low_bytes.kp T.b_low_bytes .nil pass0 (pa_cons (pe_op op_mul pe_int (pv 0)) (pa_cons pe_int pa_nil)))))), ?_⟩
  refine s_retL (xs := (cs (padB n)).map V.int) (EvL.is (xs := [V.int 128] ++ (List.replicate ((55 + 64 * n - n) % 64) (V.int 0)) ++ (lowB ((8 * n : Nat) : Int) 8).map V.int) (el_cat (EvL.r (el_cat (EvL.r (el_lst (ea_cons ev_c ea_nil) (by decide))) (EvL.r (EvL.is (el_rep (k := (((55 + 64 * n - n) % 64 : Nat) : Int)) (EvL.r (el_lst (ea_cons ev_c ea_nil) (by decide))) (Ev.is (ev_I (ev_I0 ev_c (ev_var rfl)) ev_c (by decide)) (congrArg V.int (by omega))) (by omega) (by rw [Int.toNat_natCast]; show 1 * _ ≤ _; omega)) (by rw [Int.toNat_natCast]; exact rep_one _))) (by rw [List.length_replicate]; show 1 + _ ≤ _; omega))) (EvL.r (el_call (ea_cons (Ev.is (ev_I ev_c (ev_var rfl) (.inl (by decide))) (congrArg V.int (a₂ := ((8 * n : Nat) : Int)) (by omega))) (ea_cons ev_c ea_nil)) fun H1 e Q q _ => ⟨_, 8, rfl, by decide, q⟩)) (by rw [List.length_append, List.length_replicate, List.length_map, lowB_len]; show 1 + _ + 8 ≤ _; omega)) ?_) k
  rw [lowB_N]
  unfold padB
  rw [cs_append, cs_append, List.map_append, List.map_append]
  congr 2
  unfold cs
  rw [List.map_replicate, List.map_replicate]
  rfl
def sp_words : Sp := fun vs H Q _ => ∃ (b : Addr) (bs : List Nat), vs = [.ref b] ∧ H b = some (.lst ((cs bs).map V.int)) ∧ bs.length = 64 ∧ (∀ x ∈ bs, x < 256) ∧ RetL ((wordsI bs).map V.int) H Q
theorem ok_words (T : TX K mg) : FnOk P w K mg base CX0 1 T.a_words T.d_words ["block"] sp_words := by
  refine T.F_words.ok sc_words (fun vs H Q E h => by obtain ⟨b, bs, rfl, _⟩ := h; rfl) (fun cdv A outer s H vs Q E hr h => ?_)
  obtain ⟨b, bs, rfl, hb, hl, hbs, k⟩ := h
  refine ⟨_, (pss_one (ps_ret (pe_lc (own := [("k", 1)]) (g := gName 1) (tt := tYes) rfl sc_words.nd (pi_range3 (by rfl) T.m_range (pa_cons pe_int (pa_cons pe_int (pa_cons pe_int pa_nil)))) (blkOk_by (N := ["block", "k"]) (sc := defScope s_words) (by decide +kernel)) (fun _ _ _ _ _ => pg_name (i := 1) sc_words.nd rfl (Or.inl rfl)) (fun _ _ _ _ _ => pts_nil) (fun _ _ _ _ _ => (pe_op op_or (pe_op op_or (pe_op op_or (pe_ix (r := rIxL K) ix_list (pv 0) (pv 1) (fun _ _ => rfl)) (pe_op op_shl (pe_ix (r := rIxL K) ix_list (pv 0) (pe_op op_add (pv 1) pe_int) (fun _ _ => rfl)) pe_int)) (pe_op op_shl (pe_ix (r := rIxL K) ix_list (pv 0) (pe_op op_add (pv 1) pe_int) (fun _ _ => rfl)) pe_int)) (pe_op op_shl (pe_ix (r := rIxL K) ix_list (pv 0) (pe_op op_add (pv 1) pe_int) (fun _ _ => rfl)) pe_int)))))), ?_⟩
  refine s_retL (xs := (wordsI bs).map V.int) (el_lcC (n := 16) _ (ea_cons ev_c (ea_cons ev_c (ea_cons ev_c ea_nil))) (rg4 (n := 16) (by decide)) (by rw [List.length_map, wordsI_len]) (by rw [List.length_map, wordsI_len]; decide) (fun _ => rfl) fun i H1 e1 hi => ?_) k
  have hat : ∀ (j : Nat) {σ : L2.St} {ti : TE} {n : Int}, σ[0]? = some (some (.ref b)) → Ev ti σ H1 (.int n) → n = (j : Int) → j < 64 → Ev (tOp (rIxL K) (tVar 0) ti) σ H1 (.int ((bs.getD j 0 : Nat) : Int)) := fun j σ ti n hs ht hn hj => ev_at (Ev.s (ev_var hs) (sq_of (e1 _ _ hb))) ht (at_of (j := j) hn (at_int (cs_at (by rw [List.getD_eq_getElem?_getD, List.getElem?_eq_getElem (by omega)]; rfl))))
  have hlt : ∀ j : Nat, j < 64 → bs.getD j 0 < 256 := fun j hj => by
    rw [List.getD_eq_getElem?_getD, List.getElem?_eq_getElem (by omega)]
    exact hbs _ (List.getElem_mem _)
  have h0 := hlt (4 * i) (by omega)
  have h1 := hlt (4 * i + 1) (by omega)
  have h2 := hlt (4 * i + 2) (by omega)
  have h3 := hlt (4 * i + 3) (by omega)
  have g0 := fun {σ : L2.St} {ti : TE} {n : Int} => hat (4 * i) (σ := σ) (ti := ti) (n := n)
  have g1 := fun {σ : L2.St} {ti : TE} {n : Int} => hat (4 * i + 1) (σ := σ) (ti := ti) (n := n)
  have g2 := fun {σ : L2.St} {ti : TE} {n : Int} => hat (4 * i + 2) (σ := σ) (ti := ti) (n := n)
  have g3 := fun {σ : L2.St} {ti : TE} {n : Int} => hat (4 * i + 3) (σ := σ) (ti := ti) (n := n)
  have hw : wordN bs i = bs.getD (4 * i) 0 + bs.getD (4 * i + 1) 0 * 2 ^ 8 + bs.getD (4 * i + 2) 0 * 2 ^ 16 + bs.getD (4 * i + 3) 0 * 2 ^ 24 := rfl
  refine ⟨_, at_int (n := ((wordN bs i : Nat) : Int)) (by unfold wordsI; rw [List.getElem?_map, List.getElem?_range hi]; rfl), ?_⟩
  generalize bs.getD (4 * i) 0 = b0 at *
  generalize bs.getD (4 * i + 1) 0 = b1 at *
  generalize bs.getD (4 * i + 2) 0 = b2 at *
  generalize bs.getD (4 * i + 3) 0 = b3 at *
  refine Ev.is (ev_I0 (ev_I0 (ev_I0 (g0 rfl (ev_var rfl) (by omega) (by omega)) (ev_I (g1 rfl (ev_I0 (ev_var rfl) ev_c) (by omega) (by omega)) ev_c (show CPow (b1 : Int) 8 from ⟨by decide, by decide, by omega⟩))) (ev_I (g2 rfl (ev_I0 (ev_var rfl) ev_c) (by omega) (by omega)) ev_c (show CPow (b2 : Int) 16 from ⟨by decide, by decide, by omega⟩))) (ev_I (g3 rfl (ev_I0 (ev_var rfl) ev_c) (by omega) (by omega)) ev_c (show CPow (b3 : Int) 24 from ⟨by decide, by decide, by omega⟩))) (congrArg V.int ?_)
  show Builtin.bitOr (Builtin.bitOr (Builtin.bitOr (b0 : Int) ((b1 : Int) * 2 ^ 8)) ((b2 : Int) * 2 ^ 16)) ((b3 : Int) * 2 ^ 24) = _
  have q1 : Builtin.bitOr (b0 : Int) ((b1 : Int) * 2 ^ 8) = (b0 : Int) + (b1 : Int) * 2 ^ 8 := _root_.Bits.bitOr_join (by omega) (by omega) (by omega)
  rw [q1]
  have q2 : Builtin.bitOr ((b0 : Int) + (b1 : Int) * 2 ^ 8) ((b2 : Int) * 2 ^ 16) = (b0 : Int) + (b1 : Int) * 2 ^ 8 + (b2 : Int) * 2 ^ 16 := _root_.Bits.bitOr_join (by omega) (by omega) (by omega)
  rw [q2]
  have q3 : Builtin.bitOr ((b0 : Int) + (b1 : Int) * 2 ^ 8 + (b2 : Int) * 2 ^ 16) ((b3 : Int) * 2 ^ 24) = (b0 : Int) + (b1 : Int) * 2 ^ 8 + (b2 : Int) * 2 ^ 16 + (b3 : Int) * 2 ^ 24 := _root_.Bits.bitOr_join (by omega) (by omega) (by omega)
  rw [q3, hw]
  omega
theorem q_asg4U {σ : L2.St} {H : Hp} {te : TE} {i j l m : Nat} {x y z u : V} {D : Ends} {tz : TS} (h : EvU te σ H [x, y, z, u]) (k : ∀ H1, Ex H H1 → tz D ((((σ.set i (some x)).set j (some y)).set l (some z)).set m (some u)) H1) :
    tSeq (tAsg te (gTup K 4 (gCons (gName i) (gCons (gName j) (gCons (gName l) (gCons (gName m) gNil)))))) tz D σ H := h H (Ex.refl H) _ fun p H1 _ e1 g1 => ⟨p, [x, y, z, u], rfl, st_of g1, rfl, x, [y, z, u], rfl, y, [z, u], rfl, z, [u], rfl, u, [], rfl, rfl, k H1 e1⟩
theorem s_asg4U {σ : L2.St} {H : Hp} {te : TE} {i j l m : Nat} {x y z u : V} {D : Ends} (h : EvU te σ H [x, y, z, u]) (k : ∀ H1, Ex H H1 → D.nx ((((σ.set i (some x)).set j (some y)).set l (some z)).set m (some u)) H1) :
    tAsg te (gTup K 4 (gCons (gName i) (gCons (gName j) (gCons (gName l) (gCons (gName m) gNil))))) D σ H := h H (Ex.refl H) _ fun p H1 _ e1 g1 => ⟨p, [x, y, z, u], rfl, st_of g1, rfl, x, [y, z, u], rfl, y, [z, u], rfl, z, [u], rfl, u, [], rfl, rfl, k H1 e1⟩
theorem q_asg4 {σ : L2.St} {H : Hp} {te : TE} {i j l m : Nat} {x y z u : V} {D : Ends} {tz : TS} (h : EvP K te σ H [x, y, z, u]) (k : ∀ H1, Ex H H1 → tz D ((((σ.set i (some x)).set j (some y)).set l (some z)).set m (some u)) H1) :
    tSeq (tAsg te (gTup K 4 (gCons (gName i) (gCons (gName j) (gCons (gName l) (gCons (gName m) gNil)))))) tz D σ H := h H (Ex.refl H) _ fun p H1 e1 g1 => ⟨p, [x, y, z, u], rfl, g1, rfl, x, [y, z, u], rfl, y, [z, u], rfl, z, [u], rfl, u, [], rfl, rfl, k H1 e1⟩
def sp_choice : Sp := fun vs H Q _ => ∃ (i : Nat) (b c d : Int), vs = [.int (i : Int), .int b, .int c, .int d] ∧ i < 64 ∧ ∀ p H', H p = none → Ex H H' → H' p = some (.tup [.int (fI i b c d), .int ((ixN i : Nat) : Int)]) → Q (.ref p) H'
theorem ok_choice (T : TX K mg) : FnOk P w K mg base CX0 1 T.a_choice T.d_choice ["step", "b", "c", "d"] sp_choice := by
  refine T.F_choice.ok sc_choice (fun vs H Q E h => by obtain ⟨i, b, c, d, rfl, _⟩ := h; rfl) (fun cdv A outer s H vs Q E hr h => ?_)
  obtain ⟨i, b, c, d, rfl, hi, k⟩ := h
  refine ⟨_, (pss_cons (ps_if (pt_cmpR op_lt (pv 0) pe_int (nomark _)) (pss_one (ps_ret (pe_tup (pa_cons (pe_op op_or (pe_op op_and (pv 1) (pv 2)) (pe_op op_and (pe_op op_xor (pv 1) (pe_glob (by rfl) T.c_WORD T.r_WORD)) (pv 3))) (pa_cons (pv 0) pa_nil))))) pss_nil)
      (pss_cons (ps_if (pt_cmpR op_lt (pv 0) pe_int (nomark _)) (pss_one (ps_ret (pe_tup (pa_cons (pe_op op_or (pe_op op_and (pv 3) (pv 1)) (pe_op op_and (pe_op op_xor (pv 3) (pe_glob (by rfl) T.c_WORD T.r_WORD)) (pv 2))) (pa_cons (pe_op op_mod (pe_op op_add (pe_op op_mul pe_int (pv 0)) pe_int) pe_int) pa_nil))))) pss_nil)
      (pss_cons (ps_if (pt_cmpR op_lt (pv 0) pe_int (nomark _)) (pss_one (ps_ret (pe_tup (pa_cons (pe_op op_xor (pe_op op_xor (pv 1) (pv 2)) (pv 3)) (pa_cons (pe_op op_mod (pe_op op_add (pe_op op_mul pe_int (pv 0)) pe_int) pe_int) pa_nil))))) pss_nil)
      (pss_one (ps_ret (pe_tup (pa_cons (pe_op op_xor (pv 2) (pe_op op_or (pv 1) (pe_op op_xor (pv 3) (pe_glob (by rfl) T.c_WORD T.r_WORD)))) (pa_cons (pe_op op_mod (pe_op op_mul pe_int (pv 0)) pe_int) pa_nil)))))))), ?_⟩
  have hlt : ∀ {σ : L2.St} {H1 : Hp} (n : Nat), σ[0]? = some (some (.int (i : Int))) → EvT (tTest (tOp (rI0 fun i j => .bl (decide (i < j))) (tVar 0) (tC (.int (n : Int))))) σ H1 (decide (i < n)) := fun n hs => et_test (Ev.is (ev_I0 (ev_var hs) ev_c) (congrArg V.bl (decide_eq_decide.mpr (by show (i : Int) < (n : Int) ↔ _; omega))))
  refine q_when (hlt 16 rfl) (fun hb H1 e1 => ?_) (fun hb H1 e1 => ?_)
  · have hb := of_decide_eq_true hb
    refine s_retU (xs := [.int (fI i b c d), .int ((ixN i : Nat) : Int)]) (eu_tup (ea_cons (Ev.is (ev_I0 (ev_I0 (ev_var rfl) (ev_var rfl)) (ev_I0 (ev_I0 (ev_var rfl) ev_c) (ev_var rfl))) (congrArg V.int (by unfold fI; rw [if_pos hb]))) (ea_cons (Ev.is (ev_var rfl) (congrArg V.int (by unfold ixN; rw [if_pos hb]))) ea_nil)) (Nat.le_of_ble_eq_true rfl)) fun p H2 hp e2 g2 => k p H2 (fresh_back e1 hp) (e1.trans e2) g2
  have hb := of_decide_eq_false hb
  refine q_when (hlt 32 rfl) (fun hb2 H2 e2 => ?_) (fun hb2 H2 e2 => ?_)
  · have hb2 := of_decide_eq_true hb2
    refine s_retU (xs := [.int (fI i b c d), .int ((ixN i : Nat) : Int)]) (eu_tup (ea_cons (Ev.is (ev_I0 (ev_I0 (ev_var rfl) (ev_var rfl)) (ev_I0 (ev_I0 (ev_var rfl) ev_c) (ev_var rfl))) (congrArg V.int (by unfold fI; rw [if_neg hb, if_pos hb2]))) (ea_cons (Ev.is (ev_I (ev_I0 (ev_I ev_c (ev_var rfl) (.inl (by decide))) ev_c) ev_c (by decide)) (congrArg V.int (by unfold ixN; rw [if_neg hb, if_pos hb2]; omega))) ea_nil)) (Nat.le_of_ble_eq_true rfl)) fun p H3 hp e3 g3 => k p H3 (fresh_back (e1.trans e2) hp) ((e1.trans e2).trans e3) g3
  have hb2 := of_decide_eq_false hb2
  refine q_when (hlt 48 rfl) (fun hb3 H3 e3 => ?_) (fun hb3 H3 e3 => ?_)
  · have hb3 := of_decide_eq_true hb3
    refine s_retU (xs := [.int (fI i b c d), .int ((ixN i : Nat) : Int)]) (eu_tup (ea_cons (Ev.is (ev_I0 (ev_I0 (ev_var rfl) (ev_var rfl)) (ev_var rfl)) (congrArg V.int (by unfold fI; rw [if_neg hb, if_neg hb2, if_pos hb3]))) (ea_cons (Ev.is (ev_I (ev_I0 (ev_I ev_c (ev_var rfl) (.inl (by decide))) ev_c) ev_c (by decide)) (congrArg V.int (by unfold ixN; rw [if_neg hb, if_neg hb2, if_pos hb3]; omega))) ea_nil)) (Nat.le_of_ble_eq_true rfl)) fun p H4 hp e4 g4 => k p H4 (fresh_back ((e1.trans e2).trans e3) hp) (((e1.trans e2).trans e3).trans e4) g4
  have hb3 := of_decide_eq_false hb3
  refine s_retU (xs := [.int (fI i b c d), .int ((ixN i : Nat) : Int)]) (eu_tup (ea_cons (Ev.is (ev_I0 (ev_var rfl) (ev_I0 (ev_var rfl) (ev_I0 (ev_var rfl) ev_c))) (congrArg V.int (by unfold fI; rw [if_neg hb, if_neg hb2, if_neg hb3]))) (ea_cons (Ev.is (ev_I (ev_I ev_c (ev_var rfl) (.inl (by decide))) ev_c (by decide)) (congrArg V.int (by unfold ixN; rw [if_neg hb, if_neg hb2, if_neg hb3]; omega))) ea_nil)) (Nat.le_of_ble_eq_true rfl)) fun p H4 hp e4 g4 => k p H4 (fresh_back ((e1.trans e2).trans e3) hp) (((e1.trans e2).trans e3).trans e4) g4
theorem ev_rot (T : TX K mg) {σ : L2.St} {H : Hp} {t1 t2 : TE} {x y : Int} {i : Nat} (hi : i < 64) (h1 : Ev t1 σ H (.int x)) (h2 : Ev t2 σ H (.int y)) (hx : x = ((i / 16 : Nat) : Int)) (hy : y = ((i % 4 : Nat) : Int)) : Ev (tOp (rIxT K) (tOp (rIxT K) (tC (.ref T.A_ROTATIONS)) t1) t2) σ H (.int (rotI i)) := by
  have hj : i % 4 < 4 := by omega
  have row : ∀ (n : Nat) (A : Addr) (rs : List Int), i / 16 = n → rotL.getD n [] = rs → rs.length = 4 → ([V.ref T.A_ROTATIONS_0, V.ref T.A_ROTATIONS_1, V.ref T.A_ROTATIONS_2, V.ref T.A_ROTATIONS_3])[n]? = some (.ref A) → (∀ H, SqT K H A (rs.map V.int)) → Ev (tOp (rIxT K) (tOp (rIxT K) (tC (.ref T.A_ROTATIONS)) t1) t2) σ H (.int (rotI i)) := fun n A rs hn hr hl ha hS =>
    ev_atT (ev_atT ev_c (T.s_ROTATIONS H) h1 (at_of (j := n) (by omega) ha)) (hS H) h2 (at_of (j := i % 4) hy (at_int (by unfold rotI; rw [hn, hr]; exact gl_get (by omega))))
  have h4 : i / 16 < 4 := by omega
  rcases (show i / 16 = 0 ∨ i / 16 = 1 ∨ i / 16 = 2 ∨ i / 16 = 3 by omega) with h | h | h | h
  · exact row 0 _ _ h rfl rfl rfl T.s_ROTATIONS_0
  · exact row 1 _ _ h rfl rfl rfl T.s_ROTATIONS_1
  · exact row 2 _ _ h rfl rfl rfl T.s_ROTATIONS_2
  · exact row 3 _ _ h rfl rfl rfl T.s_ROTATIONS_3
def sp_block (K : PySem.W.Frag) : Sp := fun vs H Q _ => ∃ (st wa : Addr) (s : W4) (ws : List Int), vs = [.ref st, .ref wa] ∧ SqT K H st (s.l.map V.int) ∧ H wa = some (.lst (ws.map V.int)) ∧ ws.length = 16 ∧ ∀ p H', H p = none → Ex H H' → H' p = some (.tup ((blkI s ws).l.map V.int)) → Q (.ref p) H'
theorem ok_after_block (T : TX K mg) : FnOk P w K mg base CX0 2 T.a_after_block T.d_after_block ["state", "words"] (sp_block K) := by
  refine T.F_after_block.ok sc_after_block (fun vs H Q E h => by obtain ⟨st, wa, s, ws, rfl, _⟩ := h; rfl) (fun cdv A outer s0 H vs Q E hr h => ?_)
  obtain ⟨st, wa, s, ws, rfl, hs, hw, hwl, k⟩ := h
  refine ⟨_, (pss_cons (ps_asg (pv 0) (pg_tup rfl (pgs_cons (pg_name (i := 2) sc_after_block.nd rfl (Or.inl rfl)) (pgs_cons (pg_name (i := 3) sc_after_block.nd rfl (Or.inl rfl)) (pgs_cons (pg_name (i := 4) sc_after_block.nd rfl (Or.inl rfl)) (pgs_cons (pg_name (i := 5) sc_after_block.nd rfl (Or.inl rfl)) pgs_nil))))))
      (pss_cons (ps_for PassesOwn.never rfl (pi_range1 (by rfl) T.m_range (pa_cons pe_int pa_nil)) (pg_name (i := 6) sc_after_block.nd rfl (Or.inl rfl)) (pss_cons (ps_asg (pe_call (ok_choice T) (hr.mono (by decide)) (by rfl) T.g_choice T.F_choice.kp T.b_choice .nil pass0 (pa_cons (pv 6) (pa_cons (pv 3) (pa_cons (pv 4) (pa_cons (pv 5) pa_nil))))) (pg_tup rfl (pgs_cons (pg_name (i := 7) sc_after_block.nd rfl (Or.inl rfl)) (pgs_cons (pg_name (i := 8) sc_after_block.nd rfl (Or.inl rfl)) pgs_nil))))
        (pss_cons (ps_set (i := 9) sc_after_block.nd rfl (Or.inl rfl) (pe_op op_and (pe_op op_add (pe_op op_add (pe_op op_add (pv 2) (pv 7)) (pe_ix (r := rIxT K) ix_tup (pe_glob (v := V.ref T.A_CONSTANTS) (by rfl) T.c_CONSTANTS rfl) (pv 6) (fun _ _ => rfl))) (pe_ix (r := rIxL K) ix_list (pv 1) (pv 8) (fun _ _ => rfl))) (pe_glob (by rfl) T.c_WORD T.r_WORD)))
        (pss_cons (ps_set (i := 10) sc_after_block.nd rfl (Or.inl rfl) (pe_ix (r := rIxT K) ix_tup (pe_ix (r := rIxT K) ix_tup (pe_glob (v := V.ref T.A_ROTATIONS) (by rfl) T.c_ROTATIONS rfl) (pe_op op_fdiv (pv 6) pe_int) (fun _ _ => rfl)) (pe_op op_mod (pv 6) pe_int) (fun _ _ => rfl)))
        (pss_cons (ps_set (i := 11) sc_after_block.nd rfl (Or.inl rfl) (pe_op op_or (pe_op op_shl (pv 9) (pv 10)) (pe_op op_shr (pv 9) (pe_op op_sub pe_int (pv 10)))))
        (pss_one (ps_asg (pe_tup (pa_cons (pv 5) (pa_cons (pe_op op_and (pe_op op_add (pv 3) (pv 11)) (pe_glob (by rfl) T.c_WORD T.r_WORD)) (pa_cons (pv 3) (pa_cons (pv 4) pa_nil))))) (pg_tup rfl (pgs_cons (pg_name (i := 2) sc_after_block.nd rfl (Or.inl rfl)) (pgs_cons (pg_name (i := 3) sc_after_block.nd rfl (Or.inl rfl)) (pgs_cons (pg_name (i := 4) sc_after_block.nd rfl (Or.inl rfl)) (pgs_cons (pg_name (i := 5) sc_after_block.nd rfl (Or.inl rfl)) pgs_nil))))))))))))
      (pss_one (ps_ret (pe_callTy call_tuple_of (by rfl) T.m_tuple PyProof.Rows.boot_tuple (pa_cons (pe_lc (own := [("old", 12), ("new", 13)]) (g := (gTup K 2 (gCons (gName 12) (gCons (gName 13) gNil)))) (tt := tYes) rfl sc_after_block.nd (RZ.pi_zipA (by rfl) T.m_zip (pa_cons (pv 0) (pa_cons (pe_tup (pa_cons (pv 2) (pa_cons (pv 3) (pa_cons (pv 4) (pa_cons (pv 5) pa_nil))))) pa_nil))) (blkOk_by (N := ["state", "words", "a", "b", "c", "d", "step", "chosen", "index", "mixed", "turn", "turned", "old", "new"]) (sc := defScope s_after_block) (by decide +kernel)) (fun _ _ _ _ _ => (pg_tup rfl (pgs_cons (pg_name (i := 12) sc_after_block.nd rfl (Or.inl rfl)) (pgs_cons (pg_name (i := 13) sc_after_block.nd rfl (Or.inl rfl)) pgs_nil)))) (fun _ _ _ _ _ => pts_nil) (fun _ _ _ _ _ => (pe_op op_and (pe_op op_add (pv 12) (pv 13)) (pe_glob (by rfl) T.c_WORD T.r_WORD)))) pa_nil)))))), ?_⟩
  refine q_asg4 (Ev.p (ev_var rfl) hs) fun H1 e1 => ?_
  refine q_forR1 (n := 64) (ea_cons ev_c ea_nil) (by decide) (fun i σ' H' => ∃ (z6 z7 z8 z9 z10 z11 : Option V), σ' = [some (.ref st), some (.ref wa), some (.int (itI ws s i).a), some (.int (itI ws s i).b), some (.int (itI ws s i).c), some (.int (itI ws s i).d), z6, z7, z8, z9, z10, z11, none, none] ∧ Ex H H') (fun H2 e2 => ⟨none, none, none, none, none, none, rfl, e1.trans e2⟩) ?_ ?_
  · rintro i σ' H' hi ⟨z6, z7, z8, z9, z10, z11, rfl, ex⟩
    have hi : i < 64 := by omega
    have hix := ixN_lt hi
    have hrot := rotI_le hi
    have hstep : itI ws s (i + 1) = stepI ws i (itI ws s i) := rfl
    rw [hstep]
    generalize itI ws s i = u at *
    refine q_asgT (fun x y H2 => x = .int (fI i u.b u.c u.d) ∧ y = .int ((ixN i : Nat) : Int) ∧ Ex H' H2) (fun Q q => (ea_cons (ev_var rfl) (ea_cons (ev_var rfl) (ea_cons (ev_var rfl) (ea_cons (ev_var rfl) ea_nil))) : EvA _ _ _ [.int (i : Int), .int u.b, .int u.c, .int u.d]) H' (Ex.refl _) _ fun H2 e2 => ⟨i, _, _, _, rfl, hi, fun p H3 hp e3 g3 => q p _ _ H3 ⟨rfl, rfl, e2.trans e3⟩ (st_of g3)⟩) ?_
    rintro _ _ H2 ⟨rfl, rfl, e2⟩
    obtain ⟨m, hm⟩ : ∃ m, m = Builtin.bitAnd (u.a + fI i u.b u.c u.d + cstL.getD i 0 + ws.getD (ixN i) 0) 4294967295 := ⟨_, rfl⟩
    have hm2 : m = (u.a + fI i u.b u.c u.d + cstL.getD i 0 + ws.getD (ixN i) 0) % 2 ^ 32 := hm.trans (bitAnd_maskZ _ 32)
    have hmb : 0 ≤ m ∧ m < 4294967296 := by rw [hm2]; omega
    refine q_asg (v := .int m) (Ev.is (ev_I0 (ev_I0 (ev_I0 (ev_I0 (ev_var rfl) (ev_var rfl)) (ev_atT ev_c (T.s_CONSTANTS _) (ev_var rfl) (at_of (j := i) rfl (show _ = some (V.int (cstL.getD i 0)) from at_int (ns := cstL) (gl_get hi))))) (ev_at (Ev.s (ev_var rfl) (sq_of ((ex.trans e2) _ _ hw))) (ev_var rfl) (at_of rfl (at_int (gl_get (by omega)))))) ev_c) (congrArg V.int hm.symm)) fun H3 e3 => ?_
    refine q_asg (v := .int (rotI i)) (ev_rot T hi (ev_I (ev_var rfl) ev_c ⟨by decide, by decide⟩) (ev_I (ev_var rfl) ev_c (by decide)) (by omega) (by omega)) fun H4 e4 => ?_
    refine q_asg (v := .int (Builtin.bitOr (m * 2 ^ (rotI i).toNat) (m / 2 ^ (32 - rotI i).toNat))) (ev_I0 (ev_I (ev_var rfl) (ev_var rfl) (show CPow m (rotI i) from ⟨by omega, by omega, by omega⟩)) (ev_I (ev_var rfl) (ev_I0 ev_c (ev_var rfl)) (by show (0 : Int) ≤ _; omega))) fun H5 e5 => ?_
    refine s_asg4U (x := .int u.d) (y := .int (stepI ws i u).b) (z := .int u.b) (u := .int u.c) (eu_tup (ea_cons (ev_var rfl) (ea_cons (Ev.is (ev_I0 (ev_I0 (ev_var rfl) (ev_var rfl)) ev_c) (congrArg V.int (by rw [hm]; rfl))) (ea_cons (ev_var rfl) (ea_cons (ev_var rfl) ea_nil)))) (Nat.le_of_ble_eq_true rfl)) fun H6 e6 => ⟨_, _, _, _, _, _, rfl, (ex.trans e2).trans ((e3.trans e4).trans (e5.trans e6))⟩
  · rintro σ' H' ⟨z6, z7, z8, z9, z10, z11, rfl, ex⟩
    rw [show (64 : Int).toNat = 64 from rfl]
    have hblk : blkI s ws = ⟨Builtin.bitAnd (s.a + (itI ws s 64).a) 4294967295, Builtin.bitAnd (s.b + (itI ws s 64).b) 4294967295, Builtin.bitAnd (s.c + (itI ws s 64).c) 4294967295, Builtin.bitAnd (s.d + (itI ws s 64).d) 4294967295⟩ := rfl
    generalize itI ws s 64 = u at *
    refine s_retU (xs := (blkI s ws).l.map V.int) (eu_tupOf (EvR.s (EvL.r (el_lcZT (xs := s.l.map V.int) (ys := u.l.map V.int) _ (Ev.p (ev_var rfl) (ex_t ex hs)) (EvU.p (eu_tup (ea_cons (ev_var rfl) (ea_cons (ev_var rfl) (ea_cons (ev_var rfl) (ea_cons (ev_var rfl) ea_nil)))) (Nat.le_of_ble_eq_true rfl))) rfl (Nat.le_of_ble_eq_true rfl) (fun _ _ => rfl) fun i x y H1 e1 hx hy => ?_)))) fun p H1 hp e1 g1 => k p H1 (fresh_back ex hp) (ex.trans e1) g1
    rw [hblk]
    match i, hx, hy with
    | 0, hx, hy => obtain rfl := Option.some.inj hx; obtain rfl := Option.some.inj hy; exact ⟨_, rfl, ev_I0 (ev_I0 (ev_var rfl) (ev_var rfl)) ev_c⟩
    | 1, hx, hy => obtain rfl := Option.some.inj hx; obtain rfl := Option.some.inj hy; exact ⟨_, rfl, ev_I0 (ev_I0 (ev_var rfl) (ev_var rfl)) ev_c⟩
    | 2, hx, hy => obtain rfl := Option.some.inj hx; obtain rfl := Option.some.inj hy; exact ⟨_, rfl, ev_I0 (ev_I0 (ev_var rfl) (ev_var rfl)) ev_c⟩
    | 3, hx, hy => obtain rfl := Option.some.inj hx; obtain rfl := Option.some.inj hy; exact ⟨_, rfl, ev_I0 (ev_I0 (ev_var rfl) (ev_var rfl)) ev_c⟩
    | n + 4, hx, hy => cases hx
theorem s_asgC2L {σ : L2.St} {H : Hp} {t1 t2 : TE} {x : V} {xs : List V} {sp : Sp} {dvs : List V} {E : XK} {D : Ends} {i : Nat} (h1 : Ev t1 σ H x) (h2 : EvL t2 σ H xs) (k : ∀ p H1, Ex H H1 → H1 p = some (.lst xs) → sp ([x, .ref p] ++ dvs) H1 (fun y H2 => D.nx (σ.set i (some y)) H2) E) : tAsg (tCall sp dvs E (tCons t1 (tCons t2 tNil))) (gName i) D σ H :=
  h1 H (Ex.refl H) _ fun H1 e1 => h2 H1 e1 _ fun p H2 _ e2 g2 => k p H2 (e1.trans e2) g2
theorem el_words {σ : L2.St} {H : Hp} {tl : TE} {E : XK} {bs : List Nat} (h : EvL tl σ H ((cs bs).map V.int)) (hl : bs.length = 64) (hb : ∀ x ∈ bs, x < 256) : EvL (tCall sp_words [] E (tCons tl tNil)) σ H ((wordsI bs).map V.int) := fun H1 e Q q =>
  h H1 e _ fun p H2 _ e2 g2 => ⟨p, bs, rfl, g2, hl, hb, fun r H3 hr e3 g3 => q r H3 (fresh_back e2 hr) (e2.trans e3) g3⟩
def sp_blocks (K : PySem.W.Frag) : Sp := fun vs H Q _ => ∃ (st d : Addr) (s : W4) (ds : List Nat) (n : Nat), vs = [.ref st, .ref d, .int ((64 * n : Nat) : Int)] ∧ SqT K H st (s.l.map V.int) ∧ H d = some (.lst ((cs ds).map V.int)) ∧ (∀ x ∈ ds, x < 256) ∧ 64 * n ≤ ds.length ∧ ds.length ≤ 90000 ∧ ∀ t H', Ex H H' → SqT K H' t ((blksI s ds n).l.map V.int) → Q (.ref t) H'
theorem ok_after_blocks (T : TX K mg) : FnOk P w K mg base CX0 3 T.a_after_blocks T.d_after_blocks ["state", "data", "stop"] (sp_blocks K) := by
  refine T.F_after_blocks.ok sc_after_blocks (fun vs H Q E h => by obtain ⟨st, d, s, ds, n, rfl, _⟩ := h; rfl) (fun cdv A outer s0 H vs Q E hr h => ?_)
  obtain ⟨st, d, s, ds, n, rfl, hs, hd, hb, hn, hl, k⟩ := h
  refine ⟨_, (pss_cons (ps_for PassesOwn.never rfl (pi_range3 (by rfl) T.m_range (pa_cons pe_int (pa_cons (pv 2) (pa_cons pe_int pa_nil)))) (pg_name (i := 3) sc_after_blocks.nd rfl (Or.inl rfl)) (pss_one (ps_set (i := 0) sc_after_blocks.nd rfl (Or.inl rfl) (pe_call (ok_after_block T) (hr.mono (by decide)) (by rfl) T.g_after_block T.F_after_block.kp T.b_after_block .nil pass0 (pa_cons (pv 0) (pa_cons (pe_call (ok_words T) (hr.mono (by decide)) (by rfl) T.g_words T.F_words.kp T.b_words .nil pass0 (pa_cons (pe_slice (r := rSlL K) sl_list (pv 1) (po_some (pv 3)) (po_some (pe_op op_add (pv 3) pe_int))) pa_nil)) pa_nil))))))
      (pss_one (ps_ret (pv 0)))), ?_⟩
  refine q_forRC (n := n) (ea_cons ev_c (ea_cons (ev_var rfl) (ea_cons ev_c ea_nil))) (rg64 (by omega)) (fun i σ' H' => ∃ (t : Addr) (z3 : Option V), σ' = [some (.ref t), some (.ref d), some (.int ((64 * n : Nat) : Int)), z3] ∧ Ex H H' ∧ SqT K H' t ((blksI s ds i).l.map V.int)) (fun H1 e1 => ⟨st, none, rfl, e1, ex_t e1 hs⟩) ?_ ?_
  · rintro i σ' H' hi ⟨t, z3, rfl, ex, ht⟩
    have hlen : ((ds.drop (64 * i)).take 64).length = 64 := by rw [List.length_take, List.length_drop]; omega
    refine s_asgC2L (x := .ref t) (ev_var rfl) (el_words (bs := (ds.drop (64 * i)).take 64) (EvL.is (el_mid (ns := cs ds) (i := 64 * i) (j := 64 * i + 64) (Ev.s (ev_var rfl) (sq_of (ex _ _ hd))) (Ev.is (ev_var rfl) (congrArg V.int (by omega))) (Ev.is (ev_I0 (ev_var rfl) ev_c) (congrArg V.int (by omega)))) (by rw [cs_drop, cs_take, show 64 * i + 64 - 64 * i = 64 by omega])) hlen (fun x hx => hb x (List.mem_of_mem_drop (List.mem_of_mem_take hx)))) fun p H1 e1 g1 => ⟨t, p, blksI s ds i, wordsI ((ds.drop (64 * i)).take 64), rfl, ex_t e1 ht, g1, wordsI_len _, fun r H2 hr e2 g2 => ⟨r, _, rfl, ex.trans (e1.trans e2), st_of g2⟩⟩
  · rintro σ' H' ⟨t, z3, rfl, ex, ht⟩
    refine s_ret (v := .ref t) (ev_var rfl) fun H1 e1 => k t H1 (ex.trans e1) (ex_t e1 ht)
theorem s_fldL {σ : L2.St} {H : Hp} {to tv : TE} {a C dx : Addr} {fs : List (Str × V)} {f : Str} {xs : List V} {D : Ends} (c : Cls K C) (hn : NoAttr K C f) (hv : EvL tv σ H xs) (h : ∀ H1, Ex H H1 → Ev to σ H1 (.ref a)) (hx : H a = some (.ins C dx fs)) (hl : fs.length < 1000) (k : ∀ p H1, H p = none → Ex H H1 → H1 p = some (.lst xs) → D.nx σ (upd H1 a (.ins C dx (putF f (.ref p) fs)))) : sFld K to tv f D σ H :=
  hv H (Ex.refl H) _ fun p H1 hp e1 g1 => h H1 e1 H1 (Ex.refl H1) _ fun H2 e2 => ⟨a, C, dx, fs, rfl, (e1.trans e2) _ _ hx, c, hn, hl, k p H2 hp (e1.trans e2) (e2 _ _ g1)⟩
theorem q_fldC {σ : L2.St} {H : Hp} {to : TE} {tA : TA} {f : Str} {vs dvs : List V} {sp : Sp} {E : XK} {D : Ends} {tz : TS} (ha : EvA tA σ H vs) (k : ∀ H1, Ex H H1 → sp (vs ++ dvs) H1 (fun y H2 => to σ H2 fun x H3 => ∃ a C dx fs, x = .ref a ∧ H3 a = some (.ins C dx fs) ∧ Cls K C ∧ NoAttr K C f ∧ fs.length < 1000 ∧ tz D σ (upd H3 a (.ins C dx (putF f y fs)))) E) :
    tSeq (sFld K to (tCall sp dvs E tA) f) tz D σ H := ha H (Ex.refl H) _ fun H1 e1 => k H1 e1
def mF (st r : Addr) (n : Nat) : List (Str × V) := [("_state", .ref st), ("_length", .int (n : Int)), ("_rest", .ref r)]
def MdAt (K : PySem.W.Frag) (C : Addr) (H : Hp) (a r : Addr) (ds : List Nat) : Prop := ∃ dx st, H a = some (.ins C dx (mF st r ds.length)) ∧ SqT K H st ((stt ds).l.map V.int) ∧ H r = some (.lst ((cs (rest ds)).map V.int))
theorem MdAt.ex {C a r : Addr} {H H1 : Hp} {ds : List Nat} (e : Ex H H1) (h : MdAt K C H a r ds) : MdAt K C H1 a r ds := by
  obtain ⟨dx, st, h1, h2, h3⟩ := h
  exact ⟨dx, st, e _ _ h1, ex_t e h2, e _ _ h3⟩
theorem sqt_upd {H : Hp} {t a : Addr} {xs : List V} {o : HO} {C dx : Addr} {fs : List (Str × V)} (h : SqT K H t xs) (ha : H a = some (.ins C dx fs)) : SqT K (upd H a o) t xs := by
  rcases h with h | h
  · refine .inl ?_
    rcases h with h | ⟨z, h⟩
    · exact .inl (by rw [upd_ne (fun e => by rw [e, ha] at h; cases h)]; exact h)
    · exact .inr ⟨z, by rw [upd_ne (fun e => by rw [e, ha] at h; cases h)]; exact h⟩
  · exact .inr h
def sp_minit (K : PySem.W.Frag) (C : Addr) : Sp := fun vs H Q _ => ∃ (a dx : Addr), vs = [.ref a] ∧ H a = some (.ins C dx []) ∧ ∀ r H', H r = none → FrA a H H' → MdAt K C H' a r [] → Q .non H'
theorem ok_Md5_init (T : TX K mg) : FnOk P w K mg base CX0 1 T.a_Md5_init T.d_Md5_init ["self"] (sp_minit K T.C_Md5) := by
  refine T.F_Md5_init.ok sc_Md5_init (fun vs H Q E h => by obtain ⟨a, dx, rfl, _⟩ := h; rfl) (fun cdv A outer s0 H vs Q E hr h => ?_)
  obtain ⟨a, dx, rfl, ha, k⟩ := h
  refine ⟨_, (pss_cons (ps_fld (pv 0) (pe_glob (v := V.ref T.A_START) (by rfl) T.c_START rfl) rfl)
      (pss_cons (ps_fld (pv 0) pe_int rfl)
      (pss_one (ps_fld (pv 0) (pe_lst pa_nil) rfl)))), ?_⟩
  refine q_fld T.cl_Md5 T.n_Md5_state (v := .ref T.A_START) ev_c (ev_var rfl) ha (by decide) fun H1 e1 => ?_
  refine q_fld T.cl_Md5 T.n_Md5_length (v := .int 0) ev_c (ev_var rfl) upd_same (Nat.le_of_ble_eq_true rfl) fun H2 e2 => ?_
  refine s_fldL (fs := [("_state", .ref T.A_START), ("_length", .int 0)]) (xs := []) T.cl_Md5 T.n_Md5_rest (el_lst ea_nil (by decide)) (fun _ _ => ev_var rfl) upd_same (Nat.le_of_ble_eq_true rfl) fun p H3 hp e3 g3 => ?_
  have npa : p ≠ a := (fresh_ne hp upd_same).symm
  exact k p _ (by
    cases hc : H p with
    | none => rfl
    | some o => rw [(((FrA.ex e1).upd (o := .ins T.C_Md5 dx (putF "_state" (.ref T.A_START) []))).trans (FrA.ex e2)).upd p o npa hc] at hp; cases hp) (((FrA.ex e1).upd.trans (FrA.ex e2)).upd.trans (FrA.ex e3)).upd ⟨dx, T.A_START, upd_same, T.s_START _, by rw [upd_ne npa]; exact g3⟩
def sp_mfeed (K : PySem.W.Frag) (C : Addr) : Sp := fun vs H Q _ => ∃ (a b r : Addr) (ds es : List Nat), vs = [.ref a, .ref b] ∧ MdAt K C H a r ds ∧ H b = some (.lst ((cs es).map V.int)) ∧ (∀ x ∈ ds, x < 256) ∧ (∀ x ∈ es, x < 256) ∧ es.length ≤ 80000 ∧ ∀ r' H', H r' = none → FrA a H H' → MdAt K C H' a r' (ds ++ es) → Q .non H'
theorem ok_Md5_feed (T : TX K mg) : FnOk P w K mg base CX0 4 T.a_Md5_feed T.d_Md5_feed ["self", "data"] (sp_mfeed K T.C_Md5) := by
  refine T.F_Md5_feed.ok sc_Md5_feed (fun vs H Q E h => by obtain ⟨a, b, r, ds, es, rfl, _⟩ := h; rfl) (fun cdv A outer s0 H vs Q E hr h => ?_)
  obtain ⟨a, b, r, ds, es, rfl, ⟨dx, st, ha, hst, hrs⟩, hb, hds, hes, hl, k⟩ := h
  refine ⟨_, (pss_cons (ps_fldaug (pv 0) (pe_callB (r := rLenS K) call_len_seq (by rfl) T.m_len PySem.boot_len (pa_cons (pv 1) pa_nil)) in_add)
      (pss_cons (ps_set (i := 2) sc_Md5_feed.nd rfl (Or.inl rfl) (pe_op op_cat (pe_fld (pv 0) rfl) (pv 1)))
      (pss_cons (ps_set (i := 3) sc_Md5_feed.nd rfl (Or.inl rfl) (pe_op op_mul (pe_op op_fdiv (pe_callB (r := rLenS K) call_len_seq (by rfl) T.m_len PySem.boot_len (pa_cons (pv 2) pa_nil)) pe_int) pe_int))
      (pss_cons (ps_fld (pv 0) (pe_call (ok_after_blocks T) (hr.mono (by decide)) (by rfl) T.g_after_blocks T.F_after_blocks.kp T.b_after_blocks .nil pass0 (pa_cons (pe_fld (pv 0) rfl) (pa_cons (pv 2) (pa_cons (pv 3) pa_nil)))) rfl)
      (pss_one (ps_fld (pv 0) (pe_slice (r := rSlL K) sl_list (pv 2) (po_some (pv 3)) po_none) rfl)))))), ?_⟩
  have nba : b ≠ a := fun z => by rw [z, ha] at hb; cases hb
  have nra : r ≠ a := fun z => by rw [z, ha] at hrs; cases hrs
  have hrl := rest_len ds
  refine q_fldaugI T.cl_Md5 T.n_Md5_length (ev_var rfl) ha rfl (Ev.is (ev_lenS (Ev.s (ev_var rfl) (sq_of hb))) (by rw [List.length_map, cs_len])) (Nat.le_of_ble_eq_true rfl) fun H1 e1 => ?_
  have ha1 : (upd H1 a (.ins T.C_Md5 dx (putF "_length" (.int ((ds.length : Int) + (es.length : Int))) (mF st r ds.length)))) a = some (.ins T.C_Md5 dx (mF st r (ds ++ es).length)) := by
    rw [upd_same, List.length_append]
    unfold mF
    rw [Int.natCast_add]
    rfl
  have hF1 : FrA a H (upd H1 a (.ins T.C_Md5 dx (putF "_length" (.int ((ds.length : Int) + (es.length : Int))) (mF st r ds.length)))) := (FrA.ex e1).upd
  have hst1 := sqt_upd (o := .ins T.C_Md5 dx (putF "_length" (.int ((ds.length : Int) + (es.length : Int))) (mF st r ds.length))) (ex_t e1 hst) (e1 _ _ ha)
  generalize upd H1 a (.ins T.C_Md5 dx (putF "_length" (.int ((ds.length : Int) + (es.length : Int))) (mF st r ds.length))) = H2 at *
  have hb2 := hF1 _ _ nba hb
  have hr2 := hF1 _ _ nra hrs
  refine q_asgL (xs := (cs (rest ds ++ es)).map V.int) (EvL.is (el_cat (Ev.r (ev_fld T.cl_Md5 T.n_Md5_rest (v := .ref r) (ev_var rfl) ha1 rfl) hr2) (Ev.r (ev_var rfl) hb2) (by rw [List.length_map, List.length_map, cs_len, cs_len]; omega)) (by rw [cs_append, List.map_append])) fun p H3 hp e3 g3 => ?_
  have hwl : (rest ds ++ es).length ≤ 81000 := by rw [List.length_append]; omega
  have hwb : ∀ x ∈ rest ds ++ es, x < 256 := fun x hx => by
    rcases List.mem_append.mp hx with h | h
    · exact hds x (List.mem_of_mem_drop h)
    · exact hes x h
  have hfr := feed_rest ds es
  have hfs := feed_stt ds es
  generalize rest ds ++ es = wt at *
  refine q_asg (v := .int ((64 * (wt.length / 64) : Nat) : Int)) (Ev.is (ev_I (ev_I (ev_lenS (Ev.s (ev_var rfl) (sq_of g3))) ev_c ⟨by decide, by decide⟩) ev_c (.inr (by decide))) (congrArg V.int (by rw [List.length_map, cs_len]; omega))) fun H4 e4 => ?_
  have e34 := e3.trans e4
  refine q_fldC (vs := [.ref st, .ref p, .int ((64 * (wt.length / 64) : Nat) : Int)]) (ea_cons (ev_fld T.cl_Md5 T.n_Md5_state (v := .ref st) (ev_var rfl) (e34 _ _ ha1) rfl) (ea_cons (ev_var rfl) (ea_cons (ev_var rfl) ea_nil))) fun H5 e5 => ⟨st, p, stt ds, wt, wt.length / 64, rfl, ex_t (e34.trans e5) hst1, (e4.trans e5) _ _ g3, hwb, by omega, by omega, fun t H6 e6 ht6 => ?_⟩
  have e36 := e34.trans (e5.trans e6)
  refine (ev_var rfl : Ev (tVar 0) _ H6 (.ref a)) H6 (Ex.refl _) _ fun H7 e7 => ⟨a, T.C_Md5, dx, _, rfl, (e36.trans e7) _ _ ha1, T.cl_Md5, T.n_Md5_state, Nat.le_of_ble_eq_true rfl, ?_⟩
  have npa : p ≠ a := fun z => by rw [z] at hp; rw [hp] at ha1; cases ha1
  have ha8 : (upd H7 a (.ins T.C_Md5 dx (putF "_state" (.ref t) (mF st r (ds ++ es).length)))) a = some (.ins T.C_Md5 dx (mF t r (ds ++ es).length)) := by rw [upd_same]; rfl
  have hF8 : FrA a H2 (upd H7 a (.ins T.C_Md5 dx (putF "_state" (.ref t) (mF st r (ds ++ es).length)))) := (FrA.ex (e36.trans e7)).upd
  have g8 : (upd H7 a (.ins T.C_Md5 dx (putF "_state" (.ref t) (mF st r (ds ++ es).length)))) p = some (.lst ((cs wt).map V.int)) := by rw [upd_ne npa]; exact (((e4.trans e5).trans e6).trans e7) _ _ g3
  have ht8 := sqt_upd (o := .ins T.C_Md5 dx (putF "_state" (.ref t) (mF st r (ds ++ es).length))) (ex_t e7 ht6) ((e36.trans e7) _ _ ha1)
  generalize upd H7 a (.ins T.C_Md5 dx (putF "_state" (.ref t) (mF st r (ds ++ es).length))) = H8 at *
  refine s_fldL (xs := (cs (rest (ds ++ es))).map V.int) T.cl_Md5 T.n_Md5_rest (EvL.is (el_from (i := 64 * (wt.length / 64)) (Ev.s (ev_var rfl) (sq_of g8)) (ev_var rfl)) (by rw [hfr, cs_drop])) (fun _ _ => ev_var rfl) ha8 (Nat.le_of_ble_eq_true rfl) fun u H9 hu e9 g9 => ?_
  have nua : u ≠ a := fun z => by rw [z] at hu; rw [hu] at ha8; cases ha8
  exact k u _ (by
    cases hc : H u with
    | none => rfl
    | some o => rw [hF8 _ _ nua (hF1 _ _ nua hc)] at hu; cases hu) ((hF1.trans hF8).trans (FrA.ex e9)).upd ⟨dx, t, by rw [upd_same]; rfl, sqt_upd (ex_t e9 (by rw [hfs]; exact ht8)) (e9 _ _ ha8), by rw [upd_ne nua]; exact g9⟩
def sp_mdig (K : PySem.W.Frag) (C : Addr) : Sp := fun vs H Q _ => ∃ (a r : Addr) (ds : List Nat), vs = [.ref a] ∧ MdAt K C H a r ds ∧ (∀ x ∈ ds, x < 256) ∧ ds.length ≤ 80000 ∧ RetL ((digI ds).map V.int) H Q
theorem ok_Md5_digest (T : TX K mg) : FnOk P w K mg base CX0 4 T.a_Md5_digest T.d_Md5_digest ["self"] (sp_mdig K T.C_Md5) := by
  refine T.F_Md5_digest.ok sc_Md5_digest (fun vs H Q E h => by obtain ⟨a, r, ds, rfl, _⟩ := h; rfl) (fun cdv A outer s0 H vs Q E hr h => ?_)
  obtain ⟨a, r, ds, rfl, ⟨dx, st, ha, hst, hrs⟩, hds, hl, k⟩ := h
  refine ⟨_, (pss_cons (ps_set (i := 1) sc_Md5_digest.nd rfl (Or.inl rfl) (pe_op op_cat (pe_fld (pv 0) rfl) (pe_call (ok_padding T) (hr.mono (by decide)) (by rfl) T.g_padding T.F_padding.kp T.b_padding .nil pass0 (pa_cons (pe_fld (pv 0) rfl) pa_nil))))
      (pss_cons (ps_set (i := 2) sc_Md5_digest.nd rfl (Or.inl rfl) (pe_call (ok_after_blocks T) (hr.mono (by decide)) (by rfl) T.g_after_blocks T.F_after_blocks.kp T.b_after_blocks .nil pass0 (pa_cons (pe_fld (pv 0) rfl) (pa_cons (pv 1) (pa_cons (pe_callB (r := rLenS K) call_len_seq (by rfl) T.m_len PySem.boot_len (pa_cons (pv 1) pa_nil)) pa_nil)))))
      (pss_one (ps_ret (pe_lc2 (wi1 := iList K (tCall sp_low [] E0 (tCons (tVar 3) (tCons (tC (.int 4)) tNil)))) (own := [("word", 3), ("byte", 4)]) (vs1 := [4]) (g := gName 3) (tt := tYes) (g1 := gName 4) (tt1 := tYes) rfl sc_Md5_digest.nd (pi_tup (pv 2)) (blkOk_by (N := ["self", "padded", "state", "word", "byte"]) (sc := defScope s_Md5_digest) (by decide +kernel)) (by decide) (fun _ _ _ _ _ => pg_name (i := 3) sc_Md5_digest.nd rfl (Or.inl rfl)) (fun _ _ _ _ _ => pts_nil) (fun _ _ _ _ _ => (pi_list (pe_call (ok_low_bytes T) (hr.mono (by decide)) (by rfl) T.g_low_bytes T.F_low_bytes.kp T.b_low_bytes .nil pass0 (pa_cons (pv 3) (pa_cons pe_int pa_nil))))) (fun _ _ _ _ _ => pg_name (i := 4) sc_Md5_digest.nd rfl (Or.inl rfl)) (fun _ _ _ _ _ => pts_nil) (fun _ _ _ _ _ => (pv 4))))))), ?_⟩
  have hrl := rest_len ds
  have hpl := padB_len ds.length
  refine q_asgL (xs := (cs (rest ds ++ padB ds.length)).map V.int) (EvL.is (el_cat (Ev.r (ev_fld T.cl_Md5 T.n_Md5_rest (v := .ref r) (ev_var rfl) ha rfl) hrs) (EvL.r (el_call (ea_cons (ev_fld T.cl_Md5 T.n_Md5_length (v := .int (ds.length : Int)) (ev_var rfl) ha rfl) ea_nil) fun H1 e Q q _ => ⟨ds.length, rfl, by omega, q⟩)) (by rw [List.length_map, List.length_map, cs_len, cs_len]; omega)) (by rw [cs_append, List.map_append])) fun p H1 hp e1 g1 => ?_
  have hdig : digI ds = (blksI (stt ds) (rest ds ++ padB ds.length) ((rest ds ++ padB ds.length).length / 64)).l.flatMap fun w => lowB w 4 := rfl
  have hlen : (rest ds ++ padB ds.length).length = 64 * ((rest ds ++ padB ds.length).length / 64) ∧ (rest ds ++ padB ds.length).length ≤ 200 := by rw [List.length_append]; omega
  have hb : ∀ x ∈ rest ds ++ padB ds.length, x < 256 := fun x hx => by
    rcases List.mem_append.mp hx with h | h
    · exact hds x (List.mem_of_mem_drop h)
    · exact padB_lt _ x h
  generalize rest ds ++ padB ds.length = wt at *
  refine q_asgC (vs := [.ref st, .ref p, .int ((64 * (wt.length / 64) : Nat) : Int)]) (ea_cons (ev_fld T.cl_Md5 T.n_Md5_state (v := .ref st) (ev_var rfl) (e1 _ _ ha) rfl) (ea_cons (ev_var rfl) (ea_cons (Ev.is (ev_lenS (Ev.s (ev_var rfl) (sq_of g1))) (congrArg V.int (by rw [List.length_map, cs_len]; omega))) ea_nil))) fun H2 e2 => ⟨st, p, stt ds, wt, wt.length / 64, rfl, ex_t (e1.trans e2) hst, e2 _ _ g1, hb, by omega, by omega, fun t H3 e3 ht => ?_⟩
  generalize blksI (stt ds) wt (wt.length / 64) = u at *
  refine s_retL (xs := (digI ds).map V.int) (EvL.is (el_lc2 u.l (fun w => lowB w 4) (Ev.p (ev_var rfl) ht) (fun _ => rfl) (fun _ _ => rfl) (fun _ _ _ => ev_var rfl) (fun w0 H4 e4 hw => el_call (ea_cons (ev_var rfl) (ea_cons ev_c ea_nil)) fun H5 e5 Q q _ => ⟨w0, 4, rfl, by decide, q⟩) ?_) (by rw [hdig])) fun q H4 hq e4 g4 => k q H4 (fresh_back ((e1.trans e2).trans e3) hq) (((e1.trans e2).trans e3).trans e4) g4
  show (lowB u.a 4 ++ (lowB u.b 4 ++ (lowB u.c 4 ++ (lowB u.d 4 ++ [])))).length ≤ 50000
  rw [List.length_append, List.length_append, List.length_append, List.length_append, lowB_len, lowB_len, lowB_len, lowB_len]
  decide
theorem mk_m {C : Addr} {E : XK} {σ : L2.St} {H : Hp} {Q : VK} (k : ∀ a r H', H a = none → H r = none → Ex H H' → MdAt K C H' a r [] → Q (.ref a) H') : tMake C (sp_minit K C) [] E tNil σ H Q := fun x dx hx hdx hne => by
  have hex : ∀ b o, H b = some o → upd (upd H dx (HO.own x)) x (HO.ins C dx []) b = some o := fun b o hb => by
    rw [upd_ne (fresh_ne hx hb), upd_ne (fresh_ne hdx hb)]
    exact hb
  refine ⟨x, dx, rfl, upd_same, fun r H' hrn hF hM => ⟨rfl, k x r H' hx ?_ (fun b o hb => hF b o (fresh_ne hx hb) (hex b o hb)) hM⟩⟩
  cases h : H r with
  | none => rfl
  | some o => rw [hex r o h] at hrn; cases hrn
theorem q_mkm {C : Addr} {E : XK} {σ : L2.St} {H : Hp} {D : Ends} {tz : TS} {i : Nat} (k : ∀ a r H', H a = none → H r = none → Ex H H' → MdAt K C H' a r [] → tz D (σ.set i (some (.ref a))) H') : tSeq (tAsg (tMake C (sp_minit K C) [] E tNil) (gName i)) tz D σ H := mk_m (σ := σ) (Q := fun x H' => tz D (σ.set i (some x)) H') k
def sp_md5 : Sp := fun vs H Q _ => ∃ (b : Addr) (ds : List Nat), vs = [.ref b] ∧ H b = some (.lst ((cs ds).map V.int)) ∧ (∀ x ∈ ds, x < 256) ∧ ds.length ≤ 80000 ∧ RetL ((digI ds).map V.int) H Q
theorem ok_md5 (T : TX K mg) : FnOk P w K mg base CX0 5 T.a_md5 T.d_md5 ["data"] sp_md5 := by
  refine T.F_md5.ok sc_md5 (fun vs H Q E h => by obtain ⟨b, ds, rfl, _⟩ := h; rfl) (fun cdv A outer s0 H vs Q E hr h => ?_)
  obtain ⟨b, ds, rfl, hb, hds, hl, k⟩ := h
  refine ⟨_, (pss_cons (ps_set (i := 1) sc_md5.nd rfl (Or.inl rfl) (pe_make0 T.M_Md5 (ok_Md5_init T) (hr.mono (by decide)) (by rfl) T.g_Md5 T.b_Md5_init .nil pass0))
      (pss_cons (ps_expr (pe_meth (pv 1) T.cl_Md5 T.me_Md5_feed (ok_Md5_feed T) (hr.mono (by decide)) T.b_Md5_feed .nil pass0 (pa_cons (pv 0) pa_nil)))
      (pss_one (ps_ret (pe_meth0 (pv 1) T.cl_Md5 T.me_Md5_digest (ok_Md5_digest T) (hr.mono (by decide)) T.b_Md5_digest .nil pass0))))), ?_⟩
  refine q_mkm (C := T.C_Md5) fun a r H1 ha _ e1 hM => ?_
  obtain ⟨dx, st, h1, h2, h3⟩ := id hM
  refine q_dropM (vs := [.ref b]) (ev_var rfl) h1 rfl (ea_cons (ev_var rfl) ea_nil) fun H2 e2 => ⟨a, b, r, [], ds, rfl, hM.ex e2, e2 _ _ (e1 _ _ hb), (fun x hx => by cases hx), hds, hl, fun r3 H3 _ hF hM3 => ?_⟩
  rw [List.nil_append] at hM3
  obtain ⟨dx3, st3, g1, g2, g3⟩ := id hM3
  refine s_retM (vs := []) (ev_var rfl) g1 rfl ea_nil fun H4 e4 => ⟨a, r3, ds, rfl, hM3.ex e4, hds, hl, fun p H5 hp e5 g5 => k p H5 ?_ (fun c o hc => e5 _ _ (e4 _ _ (hF _ _ (fresh_ne ha hc) (e2 _ _ (e1 _ _ hc))))) g5⟩
  cases hc : H p with
  | none => rfl
  | some o => rw [e4 _ _ (hF _ _ (fresh_ne ha hc) (e2 _ _ (e1 _ _ hc)))] at hp; cases hp

def sp_isint : Sp := fun vs H Q _ => ∃ n : Int, vs = [.int n] ∧ RetV (.bl true) H Q
theorem ok_law_is_integer (T : TX K mg) : FnOk P w K mg base CX0 1 T.a_law_is_integer T.d_law_is_integer ["actual"] sp_isint := by
  refine T.F_law_is_integer.ok sc_law_is_integer (fun vs H Q E h => by obtain ⟨n, rfl, _⟩ := h; rfl) (fun cdv A outer s H vs Q E hr h => ?_)
  obtain ⟨n, rfl, k⟩ := h
  refine ⟨_, (pss_one (ps_ret (pe_and (pe_callB (r := rIsi K) call_isi (by rfl) T.m_isinstance PyProof.Rows.boot_isinstance (pa_cons (pv 0) (pa_cons (pe_bltn (v := V.ty "int") (by rfl) T.m_int PyProof.Rows.boot_int rfl) pa_nil))) (pe_one (pe_not (pe_callB (r := rIsi K) call_isi (by rfl) T.m_isinstance PyProof.Rows.boot_isinstance (pa_cons (pv 0) (pa_cons (pe_bltn (v := V.ty "bool") (by rfl) T.m_bool PyProof.Rows.boot_bool rfl) pa_nil)))))))), ?_⟩
  walk_at "ret"
  intro H2 e2
  exact ret_eq k e2 rfl
theorem ev_isint {σ : L2.St} {H : Hp} {te : TE} {E : XK} {n : Int} (h : Ev te σ H (.int n)) : Ev (tCall sp_isint [] E (tCons te tNil)) σ H (.bl true) := ev_call (ea_cons h ea_nil) fun H1 _ Q q _ => ⟨n, rfl, q⟩

def sp_same : Sp := fun vs H Q _ => ∃ (a b : Addr) (ns : List Int), vs = [.ref a, .ref b] ∧ H a = some (.lst (ns.map V.int)) ∧ H b = some (.lst (ns.map V.int)) ∧ ns.length ≤ 100000 ∧ RetV (.bl true) H Q
theorem ok_law_same (T : TX K mg) : FnOk P w K mg base CX0 2 T.a_law_same T.d_law_same ["actual", "expected"] sp_same := by
  refine T.F_law_same.ok sc_law_same (fun vs H Q E h => by obtain ⟨a, b, ns, rfl, _⟩ := h; rfl) (fun cdv A outer s H vs Q E hr h => ?_)
  obtain ⟨a, b, ns, rfl, ha, hb, hlen, k⟩ := h
  refine ⟨_, (pss_cons (ps_if (PW.pt (pw_or (pt_not (pt_val (pe_callB (r := rIsi K) call_isi (by rfl) T.m_isinstance PyProof.Rows.boot_isinstance (pa_cons (pv 0) (pa_cons (pe_bltn (v := V.ty "list") (by rfl) T.m_list PyProof.Rows.boot_list rfl) pa_nil))))) (pw_or1 (pt_cmpR op_ne (pe_callB (r := rLenS K) call_len_seq (by rfl) T.m_len PySem.boot_len (pa_cons (pv 0) pa_nil)) (pe_callB (r := rLenS K) call_len_seq (by rfl) T.m_len PySem.boot_len (pa_cons (pv 1) pa_nil)) (nomark _))))) (pss_one (ps_ret pe_bl)) pss_nil)
      (pss_cons (ps_for PassesOwn.never rfl (pi_range1 (by rfl) T.m_range (pa_cons (pe_callB (r := rLenS K) call_len_seq (by rfl) T.m_len PySem.boot_len (pa_cons (pv 1) pa_nil)) pa_nil)) (pg_name (i := 2) sc_law_same.nd rfl (Or.inl rfl)) (pss_one (ps_if (PW.pt (pw_or (pt_not (pt_val (pe_call (ok_law_is_integer T) (hr.mono (by decide)) (by rfl) T.g_law_is_integer T.F_law_is_integer.kp T.b_law_is_integer .nil pass0 (pa_cons (pe_ix (r := rIxL K) ix_list (pv 0) (pv 2) (fun _ _ => rfl)) pa_nil)))) (pw_or1 (pt_cmpR op_ne (pe_ix (r := rIxL K) ix_list (pv 0) (pv 2) (fun _ _ => rfl)) (pe_ix (r := rIxL K) ix_list (pv 1) (pv 2) (fun _ _ => rfl)) (nomark _))))) (pss_one (ps_ret pe_bl)) pss_nil)))
      (pss_one (ps_ret pe_bl)))), ?_⟩
  have hl : ∀ {σ : L2.St} {H1 : Hp} {te : TE} {c : Addr}, Ev te σ H1 (.ref c) → H1 c = some (.lst (ns.map V.int)) → Ev (tCB (rLenS K) (tCons te tNil)) σ H1 (.int (ns.length : Int)) := fun h1 h2 => Ev.is (ev_lenS (Ev.s h1 (sq_of h2))) (by rw [List.length_map])
  refine q_when (b := false) (et_or (a := !true) (b := false) (et_not (et_test (ev_isiL (ev_var rfl) ha))) fun _ => et_test (Ev.is (ev_ne (hl (ev_var rfl) ha) (hl (ev_var rfl) hb) rfl) (by rw [decide_eq_true rfl]; rfl))) (fun hb => by cases hb) fun _ H1 e1 => ?_
  refine q_forR1 (n := (ns.length : Int)) (ea_cons (hl (ev_var rfl) (e1 _ _ hb)) ea_nil) (by omega) (fun i σ' H' => ∃ z, σ' = [some (.ref a), some (.ref b), z] ∧ Ex H H') (fun H2 e2 => ⟨none, rfl, e1.trans e2⟩) ?_ ?_
  · rintro i σ' H' hi ⟨z, rfl, ex⟩
    have hi : i < ns.length := by omega
    have hat : ∀ {σ : L2.St} {H1 : Hp} {tl ti : TE} {c : Addr}, Ev tl σ H1 (.ref c) → H1 c = some (.lst (ns.map V.int)) → Ev ti σ H1 (.int (i : Int)) → Ev (tOp (rIxL K) tl ti) σ H1 (.int (ns.getD i 0)) := fun h1 h2 h3 => ev_at (Ev.s h1 (sq_of h2)) h3 (at_of rfl (at_int (gl_get hi)))
    refine s_when (b := false) (et_or (a := !true) (b := false) (et_not (et_B (ev_isint (hat (ev_var rfl) (ex _ _ ha) (ev_var rfl))))) fun _ => et_test (Ev.is (ev_ne (hat (ev_var rfl) (ex _ _ ha) (ev_var rfl)) (hat (ev_var rfl) (ex _ _ hb) (ev_var rfl)) rfl) (by rw [decide_eq_true rfl]; rfl))) (fun hb => by cases hb) fun _ H2 e2 => ?_
    exact ⟨_, rfl, ex.trans e2⟩
  · rintro σ' H' ⟨z, rfl, ex⟩
    walk_at "ret"
    intro H2 e2
    exact k _ (ex.trans e2)

theorem ev_same {σ : L2.St} {H : Hp} {t1 t2 : TE} {E : XK} {ns : List Int} (h1 : EvR t1 σ H (ns.map V.int)) (h2 : EvR t2 σ H (ns.map V.int)) (hl : ns.length ≤ 100000) : Ev (tCall sp_same [] E (tCons t1 (tCons t2 tNil))) σ H (.bl true) := fun H1 e Q q =>
  h1 H1 e _ fun p H2 e2 g2 => h2 H2 (e.trans e2) _ fun r H3 e3 g3 => ⟨p, r, ns, rfl, e3 _ _ g2, g3, hl, fun H4 e4 => q H4 ((e2.trans e3).trans e4)⟩

theorem MdAt.fr {C a a' r : Addr} {H H1 : Hp} {ds : List Nat} (h : MdAt K C H a' r ds) (hF : FrA a H H1) (hn : a' ≠ a) {C2 dx2 : Addr} {fs : List (Str × V)} (ha : H a = some (.ins C2 dx2 fs))   : MdAt K C H1 a' r ds := by
  obtain ⟨dx, st, h1, h2, h3⟩ := h
  refine ⟨dx, st, hF _ _ hn h1, ?_, hF _ _ (fun z => by rw [z, ha] at h3; cases h3) h3⟩
  rcases h2 with h2 | h2
  · refine .inl ?_
    rcases h2 with h2 | ⟨z, h2⟩
    · exact .inl (hF _ _ (fun e => by rw [e, ha] at h2; cases h2) h2)
    · exact .inr ⟨z, hF _ _ (fun e => by rw [e, ha] at h2; cases h2) h2⟩
  · exact .inr h2
/-- a list that is no part of it changes -/
theorem MdAt.upd {C a p r : Addr} {H : Hp} {ds : List Nat} {xs : List V} {o : HO} (h : MdAt K C H a r ds) (hp : H p = some (.lst xs)) (hn : r ≠ p) : MdAt K C (upd H p o) a r ds := by
  obtain ⟨dx, st, h1, h2, h3⟩ := h
  refine ⟨dx, st, by rw [upd_ne (fun z => by rw [z, hp] at h1; cases h1)]; exact h1, ?_, by rw [upd_ne hn]; exact h3⟩
  rcases h2 with h2 | h2
  · refine .inl ?_
    rcases h2 with h2 | ⟨z, h2⟩
    · exact .inl (by rw [upd_ne (fun e => by rw [e, hp] at h2; cases h2)]; exact h2)
    · exact .inr ⟨z, by rw [upd_ne (fun e => by rw [e, hp] at h2; cases h2)]; exact h2⟩
  · exact .inr h2
theorem digI_len (ds : List Nat) : (digI ds).length = 16 := by
  show (lowB _ 4 ++ (lowB _ 4 ++ (lowB _ 4 ++ (lowB _ 4 ++ [])))).length = 16
  simp only [List.length_append, lowB_len, List.length_nil]
theorem el_callL {σ : L2.St} {H : Hp} {tl : TE} {sp : Sp} {dvs xs ys : List V} {E : XK} (h : EvL tl σ H xs) (k : ∀ p H1, Ex H H1 → H1 p = some (.lst xs) → ∀ Q : VK, RetL ys H1 Q → ∀ E : XK, sp ([.ref p] ++ dvs) H1 Q E) : EvL (tCall sp dvs E (tCons tl tNil)) σ H ys := fun H1 e Q q =>
  h H1 e _ fun p H2 _ e2 g2 => k p H2 (e.trans e2) g2 Q (fun r H3 hr e3 g3 => q r H3 (fresh_back e2 hr) (e2.trans e3) g3) E
theorem el_mth {σ : L2.St} {H : Hp} {to : TE} {a C dx : Addr} {fs : List (Str × V)} {m : Str} {sp : Sp} {dvs vs xs : List V} {E : XK} {t : TA} (h : Ev to σ H (.ref a)) (hx : H a = some (.ins C dx fs)) (hm : fs.lookup m = none) (ha : EvA t σ H vs) (k : ∀ H1, Ex H H1 → ∀ Q : VK, RetL xs H1 Q → ∀ E : XK, sp (.ref a :: (vs ++ dvs)) H1 Q E) : EvL (tMeth C m sp dvs E to t) σ H xs := fun H1 e Q q =>
  h H1 e _ fun H2 e2 => ⟨a, dx, fs, rfl, (e.trans e2) _ _ hx, hm, ha H2 (e.trans e2) _ fun H3 e3 => k H3 ((e.trans e2).trans e3) Q (fun r H4 hr e4 g4 => q r H4 (fresh_back (e2.trans e3) hr) ((e2.trans e3).trans e4) g4) E⟩
theorem s_retPairC {σ : L2.St} {H : Hp} {t1 : TE} {x : V} {tA : TA} {sp : Sp} {dvs vs : List V} {E : XK} {D : Ends} (h1 : Ev t1 σ H x) (h2 : EvA tA σ H vs) (k : ∀ H1, Ex H H1 → sp (vs ++ dvs) H1 (fun y H2 => [x, y].length ≤ sizeLine ∧ ∀ t, H2 t = none → D.rt (.ref t) (upd H2 t (.tup [x, y]))) E) : tRet (tTup (tCons t1 (tCons (tCall sp dvs E tA) tNil))) D σ H :=
  h1 H (Ex.refl H) _ fun H1 e1 => h2 H1 e1 _ fun H2 e2 => k H2 (e1.trans e2)
def sp_part : Sp := fun vs H Q _ => ∃ c : Int, vs = [.int c] ∧ ∀ t p1 p2 H' (ns : List Int) (ds : List Nat), H p1 = none → H p2 = none → Ex H H' → H' t = some (.tup [.ref p1, .ref p2]) → H' p1 = some (.lst (ns.map V.int)) → ns.length = 3 → (∀ n ∈ ns, 0 ≤ n) → H' p2 = some (.lst ((cs ds).map V.int)) → ds.length ≤ 70 → (∀ x ∈ ds, x < 256) → Q (.ref t) H'
theorem ok_law_part (T : TX K mg) : FnOk P w K mg base CX0 2 T.a_law_part T.d_law_part ["cell"] sp_part := by
  refine T.F_law_part.ok sc_law_part (fun vs H Q E h => by obtain ⟨c, rfl, _⟩ := h; rfl) (fun cdv A outer s H vs Q E hr h => ?_)
  obtain ⟨c, rfl, k⟩ := h
  refine ⟨_, (pss_cons (ps_set (i := 1) sc_law_part.nd rfl (Or.inl rfl) (pe_call (ok_law_draw T) (hr.mono (by decide)) (by rfl) T.g_law_draw T.F_law_draw.kp T.b_law_draw .nil pass0 (pa_cons (pv 0) (pa_cons pe_int (pa_cons (pe_op op_shl pe_int pe_int) pa_nil)))))
      (pss_cons (ps_set (i := 2) sc_law_part.nd rfl (Or.inl rfl) (pe_op op_mod (pe_ix (r := rIxL K) ix_list (pv 1) pe_int (fun _ _ => rfl)) pe_int))
      (pss_cons (ps_if (pt_cmpR op_eq (pe_op op_mod (pe_op op_fdiv (pe_ix (r := rIxL K) ix_list (pv 1) pe_int (fun _ _ => rfl)) pe_int) pe_int) pe_int (nomark _)) (pss_one (ps_set (i := 2) sc_law_part.nd rfl (Or.inl rfl) (pe_op op_mod (pe_ix (r := rIxL K) ix_list (pv 1) pe_int (fun _ _ => rfl)) pe_int))) pss_nil)
      (pss_one (ps_ret (pe_tup (pa_cons (pv 1) (pa_cons (pe_call (ok_law_draw T) (hr.mono (by decide)) (by rfl) T.g_law_draw T.F_law_draw.kp T.b_law_draw .nil pass0 (pa_cons (pe_op op_add (pv 0) pe_int) (pa_cons (pv 2) (pa_cons pe_int pa_nil)))) pa_nil)))))))), ?_⟩
  refine q_asgC (vs := [.int c, .int 3, .int (1 * 2 ^ (20 : Int).toNat)]) (ea_cons (ev_var rfl) (ea_cons ev_c (ea_cons (ev_I ev_c ev_c ⟨by decide, by decide, by decide⟩) ea_nil))) fun H1 e1 => ⟨c, 3, _, rfl, by decide, by decide, by decide, by decide, fun pn us H2 hpn e2 gn hun hus => ?_⟩
  have hu := fun (i : Nat) (h : i < 3) => gl_get (ns := us) (i := i) (by omega)
  have hux : ∀ {σ : L2.St} {H1 : Hp} (j : Nat) (hj : j < 3), Ex H2 H1 → σ[1]? = some (some (.ref pn)) → Ev (tOp (rIxL K) (tVar 1) (tC (.int (j : Int)))) σ H1 (.int (us.getD j 0)) := fun j hj e hs => ev_at (Ev.s (ev_var hs) (sq_of (e _ _ gn))) ev_c (at_of rfl (at_int (hu j hj)))
  have hb0 := hus _ (List.mem_of_getElem? (hu 0 (by decide)))
  have hb1 := hus _ (List.mem_of_getElem? (hu 1 (by decide)))
  refine q_asg (v := .int (us.getD 0 0 % 21)) (ev_I (hux 0 (by decide) (Ex.refl _) rfl) ev_c (by decide)) fun H3 e3 => ?_
  obtain ⟨many, hmany⟩ : ∃ m : Nat, (if decide (V.int (us.getD 0 0 / 21 % 5) = V.int 0) = true then us.getD 1 0 % 71 else us.getD 0 0 % 21) = (m : Int) := ⟨(if decide (V.int (us.getD 0 0 / 21 % 5) = V.int 0) = true then us.getD 1 0 % 71 else us.getD 0 0 % 21).toNat, by split <;> omega⟩
  have hm70 : many ≤ 70 := by split at hmany <;> omega
  refine q_ifAsg (b := decide (V.int (us.getD 0 0 / 21 % 5) = V.int 0)) (v := .int (many : Int)) (et_test (ev_eq (ev_I (ev_I (hux 0 (by decide) e3 rfl) ev_c ⟨by decide, by decide⟩) ev_c (by decide)) ev_c rfl)) (fun hb => Ev.is (ev_I (hux 1 (by decide) e3 rfl) ev_c (by decide)) (by rw [← hmany, if_pos hb])) (fun hb => by rw [← hmany, if_neg (by rw [hb]; decide)]; rfl) fun H4 e4 => ?_
  have ex4 := (e1.trans e2).trans (e3.trans e4)
  refine s_retPairC (x := .ref pn) (vs := [.int (c + 17), .int (many : Int), .int 256]) (ev_var rfl) (ea_cons (ev_I0 (ev_var rfl) ev_c) (ea_cons (ev_var rfl) (ea_cons ev_c ea_nil))) fun H6 e6 => ⟨c + 17, many, 256, rfl, by omega, by omega, by decide, by decide, fun p2 vs2 H7 hp2 e7 g7 hl7 hv7 => ⟨sz_of (Nat.le_of_ble_eq_true rfl), fun t ht => ?_⟩⟩
  obtain ⟨ds, rfl, hdl, hdb⟩ := cs_of hv7
  rw [cs_len] at hl7
  have ex6 := ex4.trans e6
  have et : Ex H7 (upd H7 t (.tup [.ref pn, .ref p2])) := Ex.new ht
  refine k t pn p2 _ us ds (fresh_back e1 hpn) (fresh_back ex6 hp2) ((ex6.trans e7).trans et) upd_same (et _ _ (e7 _ _ (((e3.trans e4).trans e6) _ _ gn))) (by omega) (fun n hn => (hus n hn).1) (et _ _ g7) (by omega) (fun x hx => by have := hdb x hx; omega)
def sp_asked (K : PySem.W.Frag) (C : Addr) : Sp := fun vs H Q _ => ∃ (a f r : Addr) (ds : List Nat), vs = [.ref a, .ref f] ∧ MdAt K C H a r ds ∧ H f = some (.lst ((cs ds).map V.int)) ∧ (∀ x ∈ ds, x < 256) ∧ ds.length ≤ 80000 ∧ RetV (.bl true) H Q
theorem ok_law_asked (T : TX K mg) : FnOk P w K mg base CX0 6 T.a_law_asked T.d_law_asked ["digest", "fed"] (sp_asked K T.C_Md5) := by
  refine T.F_law_asked.ok sc_law_asked (fun vs H Q E h => by obtain ⟨a, f, r, ds, rfl, _⟩ := h; rfl) (fun cdv A outer s H vs Q E hr h => ?_)
  obtain ⟨a, f, r, ds, rfl, hM, hf, hds, hl, k⟩ := h
  refine ⟨_, (pss_cons (ps_set (i := 2) sc_law_asked.nd rfl (Or.inl rfl) (pe_meth0 (pv 0) T.cl_Md5 T.me_Md5_digest (ok_Md5_digest T) (hr.mono (by decide)) T.b_Md5_digest .nil pass0))
      (pss_cons (ps_set (i := 3) sc_law_asked.nd rfl (Or.inl rfl) (pe_call (ok_md5 T) (hr.mono (by decide)) (by rfl) T.g_md5 T.F_md5.kp T.b_md5 .nil pass0 (pa_cons (pe_callTy (r := rListS K) call_list_of (by rfl) T.m_list PyProof.Rows.boot_list (pa_cons (pv 1) pa_nil)) pa_nil)))
      (pss_cons (ps_if (PW.pt (pw_or (pt_cmpR op_ne (pe_callB (r := rLenS K) call_len_seq (by rfl) T.m_len PySem.boot_len (pa_cons (pv 3) pa_nil)) pe_int (nomark _)) (pw_or1 (pt_not (pt_val (pe_call (ok_law_same T) (hr.mono (by decide)) (by rfl) T.g_law_same T.F_law_same.kp T.b_law_same .nil pass0 (pa_cons (pv 2) (pa_cons (pv 3) pa_nil)))))))) (pss_one (ps_ret pe_bl)) pss_nil)
      (pss_cons (ps_expr (pe_bm PySem.F.plainAttrs_list PySem.F.slot_list_append PySem.F.type_list_append mt_append (pv 2) (pa_cons pe_int pa_nil)))
      (pss_one (ps_ret (pe_call (ok_law_same T) (hr.mono (by decide)) (by rfl) T.g_law_same T.F_law_same.kp T.b_law_same .nil pass0 (pa_cons (pe_meth0 (pv 0) T.cl_Md5 T.me_Md5_digest (ok_Md5_digest T) (hr.mono (by decide)) T.b_Md5_digest .nil pass0) (pa_cons (pv 3) pa_nil))))))))), ?_⟩
  obtain ⟨dx, st, h1, h2, h3⟩ := id hM
  have hdl := digI_len ds
  refine q_asgM (vs := []) (ev_var rfl) h1 rfl ea_nil fun H1 e1 => ⟨a, r, ds, rfl, hM.ex e1, hds, hl, fun p H2 hp e2 g2 => ?_⟩
  have e12 := e1.trans e2
  refine q_asgL (xs := (digI ds).map V.int) (el_callL (el_of (Ev.s (ev_var rfl) (sq_of (e12 _ _ hf)))) fun q H3 e3 g3 Q q2 _ => ⟨q, ds, rfl, g3, hds, hl, q2⟩) fun q H3 hq e3 g3 => ?_
  have e13 := e12.trans e3
  refine q_when (b := false) (et_or (a := false) (b := false) (et_test (Ev.is (ev_ne (ev_lenS (Ev.s (ev_var rfl) (sq_of g3))) ev_c rfl) (by rw [List.length_map, hdl]; rfl))) fun _ => et_not (a := true) (et_B (ev_same (ns := digI ds) (Ev.r (ev_var rfl) (e3 _ _ g2)) (Ev.r (ev_var rfl) g3) (by omega)))) (fun hb => by cases hb) fun _ H4 e4 => ?_
  have e14 := e13.trans e4
  refine q_app (v := .int 1) (e4 _ _ (e3 _ _ g2)) (ev_var rfl) ev_c (by rw [List.length_map]; omega) fun H5 e5 => ?_
  have hp0 : H p = none := fresh_back e1 hp
  have hex : Ex H (upd H5 p (.lst ((digI ds).map V.int ++ [.int 1]))) := Ex.mut (e14.trans e5) hp0
  have nqp : q ≠ p := (fresh_ne hq g2).symm
  have hM5 := hM.ex hex
  have gq : (upd H5 p (.lst ((digI ds).map V.int ++ [.int 1]))) q = some (.lst ((digI ds).map V.int)) := by rw [upd_ne nqp]; exact e5 _ _ (e4 _ _ g3)
  generalize upd H5 p (.lst ((digI ds).map V.int ++ [.int 1])) = H6 at *
  obtain ⟨dx6, st6, g1', _⟩ := id hM5
  refine s_ret (v := .bl true) (ev_same (ns := digI ds) (EvL.r (el_mth (vs := []) (xs := (digI ds).map V.int) (ev_var rfl) g1' rfl ea_nil fun H7 e7 Q q2 _ => ⟨a, r, ds, rfl, hM5.ex e7, hds, hl, q2⟩)) (Ev.r (ev_var rfl) gq) (by omega)) fun H7 e7 => k H7 (hex.trans e7)

theorem q_forL' {σ : L2.St} {H : Hp} {D : Ends} {tu tz : TS} {tl : TE} {g : TG} {xs : List V} (h : EvL tl σ H xs) (k : ∀ p H1, H p = none → Ex H H1 → H1 p = some (.lst xs) → tSeq (tFor (iList K (tC (.ref p))) g tu) tz D σ H1) : tSeq (tFor (iList K tl) g tu) tz D σ H := h H (Ex.refl H) _ fun p H1 hp e g => k p H1 hp e g
/-! ### two digests side by side -/
structure TwoM (K : PySem.W.Frag) (C : Addr) (H : Hp) (D F s : Addr) (a r f : Nat → Addr) (m : Nat → List Nat) (bd : Nat) : Prop where
  hD : H D = some (.lst [.ref (a 0), .ref (a 1)])
  hF : H F = some (.lst [.ref (f 0), .ref (f 1)])
  hm : ∀ j, j < 2 → MdAt K C H (a j) (r j) (m j)
  hf : ∀ j, j < 2 → H (f j) = some (.lst ((cs (m j)).map V.int))
  na : ∀ i j, i < 2 → j < 2 → i ≠ j → a i ≠ a j
  nF : D ≠ F ∧ s ≠ F ∧ ∀ i, i < 2 → f i ≠ F ∧ r i ≠ F
  by8 : ∀ j, j < 2 → ∀ x ∈ m j, x < 256
  len : ∀ j, j < 2 → (m j).length ≤ bd
theorem TwoM.ex {C : Addr} {H H1 : Hp} {D F s : Addr} {a r f : Nat → Addr} {m : Nat → List Nat} {bd : Nat} (h : TwoM K C H D F s a r f m bd) (e : Ex H H1) : TwoM K C H1 D F s a r f m bd :=
  ⟨e _ _ h.hD, e _ _ h.hF, fun j hj => (h.hm j hj).ex e, fun j hj => e _ _ (h.hf j hj), h.na, h.nF, h.by8, h.len⟩
def upN {α : Type} (f : Nat → α) (j : Nat) (x : α) : Nat → α := fun i => if i = j then x else f i
theorem upN_same {α : Type} {f : Nat → α} {j : Nat} {x : α} : upN f j x j = x := if_pos rfl
theorem upN_ne {α : Type} {f : Nat → α} {i j : Nat} {x : α} (h : i ≠ j) : upN f j x i = f i := if_neg h
theorem ev_pick {σ : L2.St} {H : Hp} {tl ti : TE} {p : Addr} {f : Nat → Addr} {j : Nat} (hj : j < 2) (h1 : Ev tl σ H (.ref p)) (hp : H p = some (.lst [.ref (f 0), .ref (f 1)])) (h2 : Ev ti σ H (.int (j : Int))) : Ev (tOp (rIxL K) tl ti) σ H (.ref (f j)) := by
  refine ev_at (Ev.s h1 (sq_of hp)) h2 (at_of rfl ?_)
  match j, hj with
  | 0, _ => rfl
  | 1, _ => rfl
theorem set_pair {f : Nat → Addr} {j : Nat} {u : Addr} (hj : j < 2) : [V.ref (f 0), V.ref (f 1)].set j (.ref u) = [V.ref (upN f j u 0), V.ref (upN f j u 1)] := by
  match j, hj with
  | 0, _ => rfl
  | 1, _ => rfl
theorem q_whenMopO {σ : L2.St} {H : Hp} {to tb : TE} {a C dx : Addr} {fs : List (Str × V)} {m : Str} {D : Ends} {tu tz : TS} {u : TT} {sp : Sp} {dvs vs : List V} {E : XK} {t : TA} {r : R2} (h : Ev to σ H (.ref a)) (hx : H a = some (.ins C dx fs)) (hm : fs.lookup m = none) (ha : EvA t σ H vs)
    (k : ∀ H1, Ex H H1 → sp (.ref a :: (vs ++ dvs)) H1 (fun x H2 => tSeq (tIfS (tOr (tTest (tOp r (tC x) tb)) u) tu tNext) tz D σ H2) E) : tSeq (tIfS (tOr (tTest (tOp r (tMeth C m sp dvs E to t) tb)) u) tu tNext) tz D σ H := mth h hx hm ha k
theorem q_setLL {σ : L2.St} {H : Hp} {ta tb te : TE} {D : Ends} {tz : TS} {l : Addr} {xs ys : List V} {j : Nat} (hl : H l = some (.lst xs)) (h : EvL te σ H ys) (ho : Ev ta σ H (.ref l)) (hi : Ev tb σ H (.int (j : Int))) (hj : j < xs.length) (k : ∀ p H1, H p = none → Ex H H1 → H1 p = some (.lst ys) → tz D σ (upd H1 l (.lst (xs.set j (.ref p))))) : tSeq (tAsg te (gSub ta tb rSetL)) tz D σ H :=
  h H (Ex.refl H) _ fun p H1 hp e1 g1 => ho H1 e1 _ fun H2 e2 => hi H2 (e1.trans e2) _ fun H3 e3 => ⟨l, xs, (j : Int), j, rfl, rfl, ((e1.trans e2).trans e3) l _ hl, ixN_nat hj, k p H3 hp ((e1.trans e2).trans e3) (e3 _ _ (e2 _ _ g1))⟩
theorem ev_asked {σ : L2.St} {H : Hp} {t1 t2 : TE} {E : XK} {C a f r : Addr} {ds : List Nat} (h1 : Ev t1 σ H (.ref a)) (h2 : Ev t2 σ H (.ref f)) (hM : MdAt K C H a r ds) (hf : H f = some (.lst ((cs ds).map V.int))) (hb : ∀ x ∈ ds, x < 256) (hl : ds.length ≤ 80000) : Ev (tCall (sp_asked K C) [] E (tCons t1 (tCons t2 tNil))) σ H (.bl true) :=
  ev_call (ea_cons h1 (ea_cons h2 ea_nil)) fun H1 e Q q _ => ⟨a, f, r, ds, rfl, hM.ex e, e _ _ hf, hb, hl, q⟩
theorem Ev_and3 {σ : L2.St} {H : Hp} {t u : TT} {a : Bool} (h1 : EvT t σ H a) (h2 : EvT u σ H false) : EvT (tAnd t u) σ H false := by
  have := et_and (b := false) h1 fun _ => h2
  rwa [Bool.and_false] at this
theorem two_m {C : Addr} {E E' : XK} {σ : L2.St} {H : Hp} {Q : VK} (k : ∀ a0 r0 H1 a1 r1 H2 D, H a0 = none → H r0 = none → Ex H H1 → MdAt K C H1 a0 r0 [] → H1 a1 = none → H1 r1 = none → Ex H1 H2 → MdAt K C H2 a1 r1 [] → H2 D = none → Q (.ref D) (upd H2 D (.lst [.ref a0, .ref a1]))) : tLst (tCons (tMake C (sp_minit K C) [] E tNil) (tCons (tMake C (sp_minit K C) [] E' tNil) tNil)) σ H Q := by
  show tMake C (sp_minit K C) [] E tNil σ H (fun x H1 => tMake C (sp_minit K C) [] E' tNil σ H1 fun y H2 => [x, y].length ≤ sizeLine ∧ ∀ p, H2 p = none → Q (.ref p) (upd H2 p (.lst [x, y])))
  exact mk_m fun a0 r0 H1 ha0 hr0 e1 w0 => mk_m fun a1 r1 H2 ha1 hr1 e2 w1 => ⟨sz_of (Nat.le_of_ble_eq_true rfl), fun D hD => k a0 r0 H1 a1 r1 H2 D ha0 hr0 e1 w0 ha1 hr1 e2 w1 hD⟩
def sp_law (K : PySem.W.Frag) : Sp := fun vs H Q _ => ∃ (a : Addr) (ns : List Int), vs = [.ref a] ∧ SqL K H a (ns.map V.int) ∧ ns.length ≤ 63 ∧ ∀ H', Q (.bl true) H'
theorem ok_law (T : TX K mg) : FnOk P w K mg base CX0 7 T.a_law T.d_law ["script"] (sp_law K) := by
  refine T.F_law.ok sc_law (fun vs H Q E h => by obtain ⟨a, ns, rfl, _⟩ := h; rfl) (fun cdv A outer s H vs Q E hr h => ?_)
  obtain ⟨sa, ns, rfl, hS, hlen, q⟩ := h
  refine ⟨_, (pss_cons (ps_set (i := 1) sc_law.nd rfl (Or.inl rfl) (pe_lst (pa_cons (pe_make0 T.M_Md5 (ok_Md5_init T) (hr.mono (by decide)) (by rfl) T.g_Md5 T.b_Md5_init .nil pass0) (pa_cons (pe_make0 T.M_Md5 (ok_Md5_init T) (hr.mono (by decide)) (by rfl) T.g_Md5 T.b_Md5_init .nil pass0) pa_nil))))
      (pss_cons (ps_set (i := 2) sc_law.nd rfl (Or.inl rfl) (pe_lst (pa_cons (pe_lst pa_nil) (pa_cons (pe_lst pa_nil) pa_nil))))
      (pss_cons (ps_for PassesOwn.never rfl (pi_list (pe_slice (r := rSlL K) sl_list (pv 0) po_none (po_some pe_int))) (pg_name (i := 3) sc_law.nd rfl (Or.inl rfl)) (pss_cons (ps_asg (pe_call (ok_law_part T) (hr.mono (by decide)) (by rfl) T.g_law_part T.F_law_part.kp T.b_law_part .nil pass0 (pa_cons (pv 3) pa_nil)) (pg_tup rfl (pgs_cons (pg_name (i := 4) sc_law.nd rfl (Or.inl rfl)) (pgs_cons (pg_name (i := 5) sc_law.nd rfl (Or.inl rfl)) pgs_nil))))
        (pss_cons (ps_set (i := 6) sc_law.nd rfl (Or.inl rfl) (pe_op op_mod (pe_ix (r := rIxL K) ix_list (pv 4) pe_int (fun _ _ => rfl)) pe_int))
        (pss_cons (ps_set (i := 7) sc_law.nd rfl (Or.inl rfl) (pe_callTy (r := rListS K) call_list_of (by rfl) T.m_list PyProof.Rows.boot_list (pa_cons (pv 5) pa_nil)))
        (pss_cons (ps_if (PW.pt (pw_or (pt_cmpR op_notN1 (pe_meth (pe_ix (r := rIxL K) ix_list (pv 1) (pv 6) (fun _ _ => rfl)) T.cl_Md5 T.me_Md5_feed (ok_Md5_feed T) (hr.mono (by decide)) T.b_Md5_feed .nil pass0 (pa_cons (pv 7) pa_nil)) pe_non (nomark _)) (pw_or1 (pt_cmpR (op_neD (hu64 hr)) (pv 7) (pv 5) (nomark _))))) (pss_one (ps_ret pe_bl)) pss_nil)
        (pss_cons (ps_expr (pe_bm PySem.F.plainAttrs_list PySem.F.slot_list_append PySem.F.type_list_append mt_append (pv 7) (pa_cons pe_int pa_nil)))
        (pss_cons (ps_asg (pe_op op_cat (pe_ix (r := rIxL K) ix_list (pv 2) (pv 6) (fun _ _ => rfl)) (pv 5)) (pg_sub (pv 2) (pv 6) set_list))
        (pss_one (ps_if (PW.pt (pw_and (pt_cmpR op_eq (pe_op op_mod (pe_op op_fdiv (pe_ix (r := rIxL K) ix_list (pv 4) pe_int (fun _ _ => rfl)) pe_int) pe_int) pe_int (nomark _)) (pw_and1 (pt_not (pt_val (pe_call (ok_law_asked T) (hr.mono (by decide)) (by rfl) T.g_law_asked T.F_law_asked.kp T.b_law_asked .nil pass0 (pa_cons (pe_ix (r := rIxL K) ix_list (pv 1) (pv 6) (fun _ _ => rfl)) (pa_cons (pe_ix (r := rIxL K) ix_list (pv 2) (pv 6) (fun _ _ => rfl)) pa_nil)))))))) (pss_one (ps_ret pe_bl)) pss_nil)))))))))
      (pss_one (ps_ret (pe_and (pe_call (ok_law_asked T) (hr.mono (by decide)) (by rfl) T.g_law_asked T.F_law_asked.kp T.b_law_asked .nil pass0 (pa_cons (pe_ix (r := rIxL K) ix_list (pv 1) pe_int (fun _ _ => rfl)) (pa_cons (pe_ix (r := rIxL K) ix_list (pv 2) pe_int (fun _ _ => rfl)) pa_nil))) (pe_one (pe_call (ok_law_asked T) (hr.mono (by decide)) (by rfl) T.g_law_asked T.F_law_asked.kp T.b_law_asked .nil pass0 (pa_cons (pe_ix (r := rIxL K) ix_list (pv 1) pe_int (fun _ _ => rfl)) (pa_cons (pe_ix (r := rIxL K) ix_list (pv 2) pe_int (fun _ _ => rfl)) pa_nil)))))))))), ?_⟩
  refine q_asgRaw (fun x H2 => ∃ D a0 a1 r0 r1, x = .ref D ∧ Ex H H2 ∧ H2 D = some (.lst [.ref a0, .ref a1]) ∧ MdAt K T.C_Md5 H2 a0 r0 [] ∧ MdAt K T.C_Md5 H2 a1 r1 [] ∧ a0 ≠ a1) (fun Q q => ?_) ?_
  · refine two_m (C := T.C_Md5) fun a0 r0 H1 a1 r1 H2 D ha0 hr0 e1 m0 ha1 hr1 e2 m1 hD => q _ _ ?_
    obtain ⟨dx, st, g1, g2, g3⟩ := id m0
    have eD : Ex H2 (upd H2 D (.lst [.ref a0, .ref a1])) := Ex.new hD
    exact ⟨D, a0, a1, r0, r1, rfl, (e1.trans e2).trans eD, upd_same, m0.ex (e2.trans eD), m1.ex eD, fresh_ne ha1 g1⟩
  rintro _ H1 ⟨D, a0, a1, r0, r1, rfl, e1, hD, m0, m1, ha01⟩
  refine q_asgRaw (fun x H2 => ∃ F f0 f1, x = .ref F ∧ Ex H1 H2 ∧ H2 F = some (.lst [.ref f0, .ref f1]) ∧ H2 f0 = some (.lst []) ∧ H2 f1 = some (.lst []) ∧ H1 F = none ∧ f0 ≠ F ∧ f1 ≠ F) (fun Q q => ?_) ?_
  · refine ⟨sz_of (Nat.le_of_ble_eq_true rfl), fun b0 hb0 => ⟨sz_of (Nat.le_of_ble_eq_true rfl), fun b1 hb1 => ⟨sz_of (Nat.le_of_ble_eq_true rfl), fun B hB => q _ _ ?_⟩⟩⟩
    have e0 : Ex H1 (upd H1 b0 (.lst [])) := Ex.new hb0
    have e1' : Ex (upd H1 b0 (.lst [])) (upd (upd H1 b0 (.lst [])) b1 (.lst [])) := Ex.new hb1
    have e2 : Ex (upd (upd H1 b0 (.lst [])) b1 (.lst [])) _ := Ex.new (o := .lst [.ref b0, .ref b1]) hB
    have bk : ∀ {H H' : Hp} {p : Addr}, Ex H H' → H' p = none → H p = none := fun {H H' p} e h => by
      cases h2 : H p with
      | none => rfl
      | some o => rw [e _ _ h2] at h; cases h
    exact ⟨B, b0, b1, rfl, (e0.trans e1').trans e2, upd_same, e2 _ _ (e1' _ _ upd_same), e2 _ _ upd_same, bk (e0.trans e1') hB, fresh_ne hB (e1' _ _ upd_same), fresh_ne hB upd_same⟩
  rintro _ H2 ⟨F, f0, f1, rfl, e2, hF, hf0, hf1, fF, nf0, nf1⟩
  refine q_forL' (xs := (ns.take 8).map V.int) (el_to (i := 8) (Ev.s (ev_var rfl) (ex_l (e1.trans e2) hS)) ev_c) fun s H3 hs e3 hs3 => ?_
  have two0 : TwoM K T.C_Md5 H3 D F s (fun j => if j = 0 then a0 else a1) (fun j => if j = 0 then r0 else r1) (fun j => if j = 0 then f0 else f1) (fun _ => []) 0 := by
    have e23 := e2.trans e3
    have rF : ∀ {a r : Addr}, MdAt K T.C_Md5 H1 a r [] → r ≠ F := fun h => by
      obtain ⟨dx, st, g1, g2, g3⟩ := h
      exact fresh_ne fF g3
    refine ⟨e23 _ _ hD, e3 _ _ hF, fun j hj => ?_, fun j hj => ?_, fun i j hi hj hij => ?_, ⟨fresh_ne fF hD, (fresh_ne hs hF).symm, fun j hj => ?_⟩, (fun j hj x hx => by cases hx), fun j hj => Nat.le_refl _⟩
    · match j, hj with
      | 0, _ => exact m0.ex e23
      | 1, _ => exact m1.ex e23
    · match j, hj with
      | 0, _ => exact e3 _ _ hf0
      | 1, _ => exact e3 _ _ hf1
    · match i, j, hi, hj with
      | 0, 0, _, _ => exact absurd rfl hij
      | 1, 1, _, _ => exact absurd rfl hij
      | 0, 1, _, _ => exact ha01
      | 1, 0, _, _ => exact ha01.symm
    · match j, hj with
      | 0, _ => exact ⟨nf0, rF m0⟩
      | 1, _ => exact ⟨nf1, rF m1⟩
  generalize (fun j => if j = 0 then a0 else a1 : Nat → Addr) = fa at two0
  generalize (fun j => if j = 0 then r0 else r1 : Nat → Addr) = fr0 at two0
  generalize (fun j => if j = 0 then f0 else f1 : Nat → Addr) = ff0 at two0
  refine q_forLn (K := K) (a := s) ev_c (sq_of hs3) (fun i σ' H' => ∃ (fr ff : Nat → Addr) (m : Nat → List Nat) (z3 z4 z5 z6 z7 : Option V), σ' = [some (.ref sa), some (.ref D), some (.ref F), z3, z4, z5, z6, z7] ∧ H' s = some (.lst ((ns.take 8).map V.int)) ∧ TwoM K T.C_Md5 H' D F s fa fr ff m (70 * i))
    (fun H4 e4 => ⟨fr0, ff0, fun _ => [], none, none, none, none, none, rfl, e4 _ _ hs3, two0.ex e4⟩) (fun i σ' H' _ h => by obtain ⟨_, _, _, _, _, _, _, _, _, hs', _⟩ := h; exact sq_of hs') ?_ ?_
  · rintro i x σ' H4 hx ⟨fr, ff, m, z3, z4, z5, z6, z7, rfl, hs4, two⟩
    obtain ⟨cell, hcell, hi, rfl⟩ := int_at hx
    rw [List.length_take] at hi
    refine q_asgT (fun x y H5 => ∃ (p1 p2 : Addr) (us : List Int) (ds : List Nat), x = .ref p1 ∧ y = .ref p2 ∧ H4 p1 = none ∧ H4 p2 = none ∧ Ex H4 H5 ∧ H5 p1 = some (.lst (us.map V.int)) ∧ us.length = 3 ∧ (∀ n ∈ us, 0 ≤ n) ∧ H5 p2 = some (.lst ((cs ds).map V.int)) ∧ ds.length ≤ 70 ∧ ∀ x ∈ ds, x < 256) (fun Q q => (ea_cons (ev_var rfl) ea_nil : EvA _ _ _ [.int cell]) H4 (Ex.refl _) _ fun H5 e5 => ⟨cell, rfl, fun t p1 p2 H6 us ds hp1 hp2 e6 ht g1 hl hn g2 hdl hdb => q t _ _ H6 ⟨p1, p2, us, ds, rfl, rfl, fresh_back e5 hp1, fresh_back e5 hp2, e5.trans e6, g1, hl, hn, g2, hdl, hdb⟩ (st_of ht)⟩) ?_
    rintro _ _ H5 ⟨p1, p2, us, ds, rfl, rfl, hp1, hp2, e5, g1, hul, hun, g2, hdl, hdb⟩
    have two5 := two.ex e5
    have hu2 := gl_get (ns := us) (i := 2) (by omega)
    have hn2 := hun _ (List.mem_of_getElem? hu2)
    obtain ⟨j, hj⟩ : ∃ j : Nat, us.getD 2 0 % 2 = (j : Int) := ⟨(us.getD 2 0 % 2).toNat, by omega⟩
    have hj2 : j < 2 := by omega
    refine q_asg (v := .int (j : Int)) (Ev.is (ev_I (ev_at (Ev.s (ev_var rfl) (sq_of g1)) ev_c (at_of rfl (at_int hu2))) ev_c (by decide)) (congrArg V.int hj)) fun H6 e6 => ?_
    refine q_asgL (xs := (cs ds).map V.int) (el_of (Ev.s (ev_var rfl) (sq_of (e6 _ _ g2)))) fun hd H7 hhd e7 g7 => ?_
    have e57 := e6.trans e7
    have two7 := two5.ex e57
    have hs7 := (e5.trans e57) _ _ hs4
    obtain ⟨dx, st, ha7, _, hr7⟩ := two7.hm j hj2
    refine q_whenMopO (vs := [.ref hd]) (ev_pick hj2 (ev_var rfl) two7.hD (ev_var rfl)) ha7 rfl (ea_cons (ev_var rfl) ea_nil) fun H8 e8 => ⟨fa j, hd, fr j, m j, ds, rfl, (two7.hm j hj2).ex e8, e8 _ _ g7, two7.by8 j hj2, hdb, by omega, fun r' H9 hr' hF9 hM9 => ?_⟩
    have ha8 := e8 _ _ ha7
    have kp : ∀ {p : Addr} {xs : List V}, H8 p = some (.lst xs) → H9 p = some (.lst xs) := fun h => hF9 _ _ (fun z => by rw [z, ha8] at h; cases h) h
    have gh9 := kp (e8 _ _ g7)
    have gp9 := kp (e8 _ _ (e57 _ _ g2))
    have gn9 := kp (e8 _ _ (e57 _ _ g1))
    refine q_when (b := false) (et_or (a := false) (b := false) (et_test (Ev.is (ev_notN ev_c) (congrArg V.bl (by rw [decide_eq_true rfl]; rfl)))) fun _ => et_test (Ev.is (ev_neI (Ev.s (ev_var rfl) (sq_of gh9)) (Ev.s (ev_var rfl) (sq_of gp9))) (by rw [decide_eq_true rfl]; rfl))) (fun hb => by cases hb) fun _ H10 e10 => ?_
    refine q_app (v := .int 9) (e10 _ _ gh9) (ev_var rfl) ev_c (by rw [List.length_map, cs_len]; omega) fun H11 e11 => ?_
    have e911 := e10.trans e11
    have hh0 : H4 hd = none := fresh_back (e5.trans e6) hhd
    have old : ∀ {p : Addr} {o : HO}, H6 p = some o → p ≠ hd := fun h => fresh_ne hhd h
    have nrh : r' ≠ hd := (fresh_ne hr' (e8 _ _ g7)).symm
    -- the state behind the append
    have st1 : ∀ {p : Addr} {xs : List V}, p ≠ hd → H8 p = some (.lst xs) → (upd H11 hd (.lst ((cs ds).map V.int ++ [.int 9]))) p = some (.lst xs) := fun n h => by
      rw [upd_ne n]
      exact e911 _ _ (kp h)
    have two6 := two5.ex e6
    have e78 := e7.trans e8
    have gD := st1 (old two6.hD) (e78 _ _ two6.hD)
    have gF := st1 (old two6.hF) (e78 _ _ two6.hF)
    have gs := st1 (old ((e5.trans e6) _ _ hs4)) (e78 _ _ ((e5.trans e6) _ _ hs4))
    have gf : ∀ l, l < 2 → (upd H11 hd (.lst ((cs ds).map V.int ++ [.int 9]))) (ff l) = some (.lst ((cs (m l)).map V.int)) := fun l hl => st1 (old (two6.hf l hl)) (e78 _ _ (two6.hf l hl))
    have gp := st1 (old (e6 _ _ g2)) (e78 _ _ (e6 _ _ g2))
    have gn := st1 (old (e6 _ _ g1)) (e78 _ _ (e6 _ _ g1))
    have hr'F : r' ≠ F := (fresh_ne hr' (e78 _ _ two6.hF)).symm
    have gM : ∀ l, l < 2 → MdAt K T.C_Md5 (upd H11 hd (.lst ((cs ds).map V.int ++ [.int 9]))) (fa l) (upN fr j r' l) (upN m j (m j ++ ds) l) := fun l hl => by
      by_cases hlj : l = j
      · subst hlj
        rw [upN_same, upN_same]
        exact (hM9.ex e911).upd (e911 _ _ gh9) nrh
      · rw [upN_ne hlj, upN_ne hlj]
        have h6 := two6.hm l hl
        obtain ⟨_, _, _, _, h6r⟩ := id h6
        exact (((h6.ex e78).fr hF9 (two.na l j hl hj2 hlj) ha8).ex e911).upd (e911 _ _ gh9) (old h6r)
    generalize upd H11 hd (.lst ((cs ds).map V.int ++ [.int 9])) = H12 at *
    have hml := two.len j hj2
    refine q_setLL (j := j) (ys := (cs (m j ++ ds)).map V.int) gF (EvL.is (el_cat (Ev.r (ev_pick hj2 (ev_var rfl) gF (ev_var rfl)) (gf j hj2)) (Ev.r (ev_var rfl) gp) (by rw [List.length_map, List.length_map, cs_len, cs_len]; omega)) (by rw [cs_append, List.map_append])) (ev_var rfl) (ev_var rfl) hj2 fun u H13 hu e13 g13 => ?_
    have nuF : u ≠ F := (fresh_ne hu gF).symm
    have hsF := two.nF.2.1
    have st2 : ∀ {p : Addr} {o : HO}, p ≠ F → H12 p = some o → (upd H13 F (.lst ([V.ref (ff 0), V.ref (ff 1)].set j (.ref u)))) p = some o := fun n h => by
      rw [upd_ne n]
      exact e13 _ _ h
    have npF : p1 ≠ F := fresh_ne' hp1 two.hF |>.symm
    have gn14 := st2 npF gn
    have two14 : TwoM K T.C_Md5 (upd H13 F (.lst ([V.ref (ff 0), V.ref (ff 1)].set j (.ref u)))) D F s fa (upN fr j r') (upN ff j u) (upN m j (m j ++ ds)) (70 * (i + 1)) := by
      refine ⟨st2 two.nF.1 gD, ?_, fun l hl => ?_, fun l hl => ?_, two.na, ⟨two.nF.1, two.nF.2.1, fun l hl => ?_⟩, fun l hl x hx => ?_, fun l hl => ?_⟩
      · rw [upd_same, set_pair hj2]
      · refine ((gM l hl).ex e13).upd (e13 _ _ gF) ?_
        by_cases hlj : l = j
        · rw [hlj, upN_same]
          exact hr'F
        · rw [upN_ne hlj]
          exact (two.nF.2.2 l hl).2
      · by_cases hlj : l = j
        · rw [hlj, upN_same, upN_same, upd_ne nuF]
          exact g13
        · rw [upN_ne hlj, upN_ne hlj]
          exact st2 (two.nF.2.2 l hl).1 (gf l hl)
      · by_cases hlj : l = j
        · rw [hlj, upN_same, upN_same]
          exact ⟨nuF, hr'F⟩
        · rw [upN_ne hlj, upN_ne hlj]
          exact two.nF.2.2 l hl
      · by_cases hlj : l = j
        · rw [hlj, upN_same] at hx
          rcases List.mem_append.mp hx with h | h
          · exact two.by8 j hj2 x h
          · exact hdb x h
        · rw [upN_ne hlj] at hx
          exact two.by8 l hl x hx
      · by_cases hlj : l = j
        · rw [hlj, upN_same, List.length_append]
          exact Nat.le_trans (Nat.add_le_add hml hdl) (Nat.le_of_eq (Nat.mul_succ 70 i).symm)
        · rw [upN_ne hlj]
          exact Nat.le_trans (two.len l hl) (Nat.mul_le_mul_left 70 (Nat.le_succ i))
    have gs14 := st2 hsF gs
    generalize upd H13 F (.lst ([V.ref (ff 0), V.ref (ff 1)].set j (.ref u))) = H14 at *
    have hlen14 := two14.len j hj2
    refine s_when (b := false) (Ev_and3 (et_test (ev_eq (ev_I (ev_I (ev_at (Ev.s (ev_var rfl) (sq_of gn14)) ev_c (at_of rfl (at_int hu2))) ev_c ⟨by decide, by decide⟩) ev_c (by decide)) ev_c rfl)) (et_not (a := true) (et_B (ev_asked (ev_pick hj2 (ev_var rfl) two14.hD (ev_var rfl)) (ev_pick hj2 (ev_var rfl) two14.hF (ev_var rfl)) (two14.hm j hj2) (two14.hf j hj2) (two14.by8 j hj2) (by omega))))) (fun hb => by cases hb) fun _ H15 e15 => ?_
    exact ⟨_, _, _, _, _, _, _, _, rfl, e15 _ _ gs14, two14.ex e15⟩
  · rintro σ' H4 ⟨fr, ff, m, z3, z4, z5, z6, z7, rfl, hs4, two⟩
    rw [List.length_map, List.length_take] at two
    have hl0 := two.len 0 (by decide)
    have hl1 := two.len 1 (by decide)
    refine s_ret (v := .bl true) (Ev.is (ev_andV (ev_asked (ev_pick (j := 0) (by decide) (ev_var rfl) two.hD ev_c) (ev_pick (j := 0) (by decide) (ev_var rfl) two.hF ev_c) (two.hm 0 (by decide)) (two.hf 0 (by decide)) (two.by8 0 (by decide)) (by omega)) fun _ => ev_asked (ev_pick (j := 1) (by decide) (ev_var rfl) two.hD ev_c) (ev_pick (j := 1) (by decide) (ev_var rfl) two.hF ev_c) (two.hm 1 (by decide)) (two.hf 1 (by decide)) (two.by8 1 (by decide)) (by omega)) rfl) fun H5 e5 => q _

end
theorem all_mk {l : PySem.W.OpenLaw} {w : World} {K : PySem.W.Frag} {h : Heap} {mg : Str → Option Value} {fa : Addr} {f1 f2 f3 f4 f5 f6 f7 f8 f9 f10 f11 f12 f13 f14 f15 f16 C_Md5 A_START A_ROTATIONS A_ROTATIONS_0 A_ROTATIONS_1 A_ROTATIONS_2 A_ROTATIONS_3 A_CONSTANTS : Addr} (X : K.In h) (G : h.Ns mainGlobals mg) (hfa : mg "law" = some (.ref fa))
    {od1 an1 : Option Addr} {sl1 : Array (Option Value)} {oc1 dc1 pm1 cd1 ct1 : Value} {kV1 : Value} {od2 an2 : Option Addr} {sl2 : Array (Option Value)} {oc2 dc2 pm2 cd2 ct2 : Value} {kV2 : Value} {od3 an3 : Option Addr} {sl3 : Array (Option Value)} {oc3 dc3 pm3 cd3 ct3 : Value} {kV3 : Value} {od4 an4 : Option Addr} {sl4 : Array (Option Value)} {oc4 dc4 pm4 cd4 ct4 : Value} {kV4 : Value} {od5 an5 : Option Addr} {sl5 : Array (Option Value)} {oc5 dc5 pm5 cd5 ct5 : Value} {kV5 : Value} {od6 an6 : Option Addr} {sl6 : Array (Option Value)} {oc6 dc6 pm6 cd6 ct6 : Value} {kV6 : Value} {od7 an7 : Option Addr} {sl7 : Array (Option Value)} {oc7 dc7 pm7 cd7 ct7 : Value} {kV7 : Value} {od8 an8 : Option Addr} {sl8 : Array (Option Value)} {oc8 dc8 pm8 cd8 ct8 : Value} {kV8 : Value} {od9 an9 : Option Addr} {sl9 : Array (Option Value)} {oc9 dc9 pm9 cd9 ct9 : Value} {kV9 : Value} {od10 an10 : Option Addr} {sl10 : Array (Option Value)} {oc10 dc10 pm10 cd10 ct10 : Value} {kV10 : Value} {od11 an11 : Option Addr} {sl11 : Array (Option Value)} {oc11 dc11 pm11 cd11 ct11 : Value} {kV11 : Value} {od12 an12 : Option Addr} {sl12 : Array (Option Value)} {oc12 dc12 pm12 cd12 ct12 : Value} {kV12 : Value} {od13 an13 : Option Addr} {sl13 : Array (Option Value)} {oc13 dc13 pm13 cd13 ct13 : Value} {kV13 : Value} {od14 an14 : Option Addr} {sl14 : Array (Option Value)} {oc14 dc14 pm14 cd14 ct14 : Value} {kV14 : Value} {od15 an15 : Option Addr} {sl15 : Array (Option Value)} {oc15 dc15 pm15 cd15 ct15 : Value} {kV15 : Value} {od16 an16 : Option Addr} {sl16 : Array (Option Value)} {oc16 dc16 pm16 cd16 ct16 : Value} {kV16 : Value} {u_WORD : Value} {wSTART_0 wSTART_1 wSTART_2 wSTART_3 : Value} {dxSTART : Option Addr} {nxSTART : Nat} {sxSTART : Array (Option Value)} {wROTATIONS_0 wROTATIONS_1 wROTATIONS_2 wROTATIONS_3 : Value} {dxROTATIONS : Option Addr} {nxROTATIONS : Nat} {sxROTATIONS : Array (Option Value)} {wROTATIONS_0_0 wROTATIONS_0_1 wROTATIONS_0_2 wROTATIONS_0_3 : Value} {dxROTATIONS_0 : Option Addr} {nxROTATIONS_0 : Nat} {sxROTATIONS_0 : Array (Option Value)} {wROTATIONS_1_0 wROTATIONS_1_1 wROTATIONS_1_2 wROTATIONS_1_3 : Value} {dxROTATIONS_1 : Option Addr} {nxROTATIONS_1 : Nat} {sxROTATIONS_1 : Array (Option Value)} {wROTATIONS_2_0 wROTATIONS_2_1 wROTATIONS_2_2 wROTATIONS_2_3 : Value} {dxROTATIONS_2 : Option Addr} {nxROTATIONS_2 : Nat} {sxROTATIONS_2 : Array (Option Value)} {wROTATIONS_3_0 wROTATIONS_3_1 wROTATIONS_3_2 wROTATIONS_3_3 : Value} {dxROTATIONS_3 : Option Addr} {nxROTATIONS_3 : Nat} {sxROTATIONS_3 : Array (Option Value)} {wCONSTANTS_0 wCONSTANTS_1 wCONSTANTS_2 wCONSTANTS_3 wCONSTANTS_4 wCONSTANTS_5 wCONSTANTS_6 wCONSTANTS_7 wCONSTANTS_8 wCONSTANTS_9 wCONSTANTS_10 wCONSTANTS_11 wCONSTANTS_12 wCONSTANTS_13 wCONSTANTS_14 wCONSTANTS_15 wCONSTANTS_16 wCONSTANTS_17 wCONSTANTS_18 wCONSTANTS_19 wCONSTANTS_20 wCONSTANTS_21 wCONSTANTS_22 wCONSTANTS_23 wCONSTANTS_24 wCONSTANTS_25 wCONSTANTS_26 wCONSTANTS_27 wCONSTANTS_28 wCONSTANTS_29 wCONSTANTS_30 wCONSTANTS_31 wCONSTANTS_32 wCONSTANTS_33 wCONSTANTS_34 wCONSTANTS_35 wCONSTANTS_36 wCONSTANTS_37 wCONSTANTS_38 wCONSTANTS_39 wCONSTANTS_40 wCONSTANTS_41 wCONSTANTS_42 wCONSTANTS_43 wCONSTANTS_44 wCONSTANTS_45 wCONSTANTS_46 wCONSTANTS_47 wCONSTANTS_48 wCONSTANTS_49 wCONSTANTS_50 wCONSTANTS_51 wCONSTANTS_52 wCONSTANTS_53 wCONSTANTS_54 wCONSTANTS_55 wCONSTANTS_56 wCONSTANTS_57 wCONSTANTS_58 wCONSTANTS_59 wCONSTANTS_60 wCONSTANTS_61 wCONSTANTS_62 wCONSTANTS_63 : Value} {dxCONSTANTS : Option Addr} {nxCONSTANTS : Nat} {sxCONSTANTS : Array (Option Value)}
    (a1 : PySem.W.nsIn K mainGlobals "md5" = some (some (.ref f1)))
    (l1 : K.lookup f1 = some ⟨oc1, od1, .func (PySem.W.fnOf "md5" "md5" (defArgs s_md5) (defBody s_md5) (defScope s_md5) .none kV1 dc1 pm1 an1 cd1 ct1), sl1⟩) (c1 : PySem.W.codeIn K cd1 "md5" = true) (k1 : PySem.W.keepIn K (.ref f1) = true)
    (a2 : PySem.W.findIn K (.ref C_Md5) "__init__" = some (some (.ref f2))) (i2 : PySem.W.isFn K (.ref f2) = true)
    (l2 : K.lookup f2 = some ⟨oc2, od2, .func (PySem.W.fnOf "__init__" "Md5.__init__" (defArgs s_Md5_init) (defBody s_Md5_init) (defScope s_Md5_init) .none kV2 dc2 pm2 an2 cd2 ct2), sl2⟩) (c2 : PySem.W.codeIn K cd2 "Md5.__init__" = true) (k2 : PySem.W.keepIn K (.ref f2) = true)
    (a3 : PySem.W.findIn K (.ref C_Md5) "feed" = some (some (.ref f3))) (i3 : PySem.W.isFn K (.ref f3) = true)
    (l3 : K.lookup f3 = some ⟨oc3, od3, .func (PySem.W.fnOf "feed" "Md5.feed" (defArgs s_Md5_feed) (defBody s_Md5_feed) (defScope s_Md5_feed) .none kV3 dc3 pm3 an3 cd3 ct3), sl3⟩) (c3 : PySem.W.codeIn K cd3 "Md5.feed" = true) (k3 : PySem.W.keepIn K (.ref f3) = true)
    (a4 : PySem.W.findIn K (.ref C_Md5) "digest" = some (some (.ref f4))) (i4 : PySem.W.isFn K (.ref f4) = true)
    (l4 : K.lookup f4 = some ⟨oc4, od4, .func (PySem.W.fnOf "digest" "Md5.digest" (defArgs s_Md5_digest) (defBody s_Md5_digest) (defScope s_Md5_digest) .none kV4 dc4 pm4 an4 cd4 ct4), sl4⟩) (c4 : PySem.W.codeIn K cd4 "Md5.digest" = true) (k4 : PySem.W.keepIn K (.ref f4) = true)
    (a5 : PySem.W.nsIn K mainGlobals "_low_bytes" = some (some (.ref f5)))
    (l5 : K.lookup f5 = some ⟨oc5, od5, .func (PySem.W.fnOf "_low_bytes" "_low_bytes" (defArgs s_low_bytes) (defBody s_low_bytes) (defScope s_low_bytes) .none kV5 dc5 pm5 an5 cd5 ct5), sl5⟩) (c5 : PySem.W.codeIn K cd5 "_low_bytes" = true) (k5 : PySem.W.keepIn K (.ref f5) = true)
    (a6 : PySem.W.nsIn K mainGlobals "_padding" = some (some (.ref f6)))
    (l6 : K.lookup f6 = some ⟨oc6, od6, .func (PySem.W.fnOf "_padding" "_padding" (defArgs s_padding) (defBody s_padding) (defScope s_padding) .none kV6 dc6 pm6 an6 cd6 ct6), sl6⟩) (c6 : PySem.W.codeIn K cd6 "_padding" = true) (k6 : PySem.W.keepIn K (.ref f6) = true)
    (a7 : PySem.W.nsIn K mainGlobals "_after_blocks" = some (some (.ref f7)))
    (l7 : K.lookup f7 = some ⟨oc7, od7, .func (PySem.W.fnOf "_after_blocks" "_after_blocks" (defArgs s_after_blocks) (defBody s_after_blocks) (defScope s_after_blocks) .none kV7 dc7 pm7 an7 cd7 ct7), sl7⟩) (c7 : PySem.W.codeIn K cd7 "_after_blocks" = true) (k7 : PySem.W.keepIn K (.ref f7) = true)
    (a8 : PySem.W.nsIn K mainGlobals "_words" = some (some (.ref f8)))
    (l8 : K.lookup f8 = some ⟨oc8, od8, .func (PySem.W.fnOf "_words" "_words" (defArgs s_words) (defBody s_words) (defScope s_words) .none kV8 dc8 pm8 an8 cd8 ct8), sl8⟩) (c8 : PySem.W.codeIn K cd8 "_words" = true) (k8 : PySem.W.keepIn K (.ref f8) = true)
    (a9 : PySem.W.nsIn K mainGlobals "_after_block" = some (some (.ref f9)))
    (l9 : K.lookup f9 = some ⟨oc9, od9, .func (PySem.W.fnOf "_after_block" "_after_block" (defArgs s_after_block) (defBody s_after_block) (defScope s_after_block) .none kV9 dc9 pm9 an9 cd9 ct9), sl9⟩) (c9 : PySem.W.codeIn K cd9 "_after_block" = true) (k9 : PySem.W.keepIn K (.ref f9) = true)
    (a10 : PySem.W.nsIn K mainGlobals "_choice" = some (some (.ref f10)))
    (l10 : K.lookup f10 = some ⟨oc10, od10, .func (PySem.W.fnOf "_choice" "_choice" (defArgs s_choice) (defBody s_choice) (defScope s_choice) .none kV10 dc10 pm10 an10 cd10 ct10), sl10⟩) (c10 : PySem.W.codeIn K cd10 "_choice" = true) (k10 : PySem.W.keepIn K (.ref f10) = true)
    (a11 : PySem.W.nsIn K mainGlobals "_law_draw" = some (some (.ref f11)))
    (l11 : K.lookup f11 = some ⟨oc11, od11, .func (PySem.W.fnOf "_law_draw" "_law_draw" (defArgs s_law_draw) (defBody s_law_draw) (defScope s_law_draw) .none kV11 dc11 pm11 an11 cd11 ct11), sl11⟩) (c11 : PySem.W.codeIn K cd11 "_law_draw" = true) (k11 : PySem.W.keepIn K (.ref f11) = true)
    (a12 : PySem.W.nsIn K mainGlobals "_law_is_integer" = some (some (.ref f12)))
    (l12 : K.lookup f12 = some ⟨oc12, od12, .func (PySem.W.fnOf "_law_is_integer" "_law_is_integer" (defArgs s_law_is_integer) (defBody s_law_is_integer) (defScope s_law_is_integer) .none kV12 dc12 pm12 an12 cd12 ct12), sl12⟩) (c12 : PySem.W.codeIn K cd12 "_law_is_integer" = true) (k12 : PySem.W.keepIn K (.ref f12) = true)
    (a13 : PySem.W.nsIn K mainGlobals "_law_same" = some (some (.ref f13)))
    (l13 : K.lookup f13 = some ⟨oc13, od13, .func (PySem.W.fnOf "_law_same" "_law_same" (defArgs s_law_same) (defBody s_law_same) (defScope s_law_same) .none kV13 dc13 pm13 an13 cd13 ct13), sl13⟩) (c13 : PySem.W.codeIn K cd13 "_law_same" = true) (k13 : PySem.W.keepIn K (.ref f13) = true)
    (a14 : PySem.W.nsIn K mainGlobals "_law_part" = some (some (.ref f14)))
    (l14 : K.lookup f14 = some ⟨oc14, od14, .func (PySem.W.fnOf "_law_part" "_law_part" (defArgs s_law_part) (defBody s_law_part) (defScope s_law_part) .none kV14 dc14 pm14 an14 cd14 ct14), sl14⟩) (c14 : PySem.W.codeIn K cd14 "_law_part" = true) (k14 : PySem.W.keepIn K (.ref f14) = true)
    (a15 : PySem.W.nsIn K mainGlobals "_law_asked" = some (some (.ref f15)))
    (l15 : K.lookup f15 = some ⟨oc15, od15, .func (PySem.W.fnOf "_law_asked" "_law_asked" (defArgs s_law_asked) (defBody s_law_asked) (defScope s_law_asked) .none kV15 dc15 pm15 an15 cd15 ct15), sl15⟩) (c15 : PySem.W.codeIn K cd15 "_law_asked" = true) (k15 : PySem.W.keepIn K (.ref f15) = true)
    (a16 : PySem.W.nsIn K mainGlobals "law" = some (some (.ref f16)))
    (l16 : K.lookup f16 = some ⟨oc16, od16, .func (PySem.W.fnOf "law" "law" (defArgs s_law) (defBody s_law) (defScope s_law) .none kV16 dc16 pm16 an16 cd16 ct16), sl16⟩) (c16 : PySem.W.codeIn K cd16 "law" = true) (k16 : PySem.W.keepIn K (.ref f16) = true)
    (aC_Md5 : PySem.W.nsIn K mainGlobals "Md5" = some (some (.ref C_Md5)))
    (pg_Md5 : PySem.W.plainGet K C_Md5 Str.empty = true) (hd_Md5 : PySem.W.hasDictIn K C_Md5 = true) (po_Md5 : PySem.W.plainOver K C_Md5 = true) (sa_Md5 : PySem.W.findIn K (.ref C_Md5) "__setattr__" = some (some (.builtin "object.__setattr__"))) (mk_Md5 : PySem.W.makesIn K C_Md5 = true) (kc_Md5 : PySem.W.keepIn K (.ref C_Md5) = true)
    (n_Md5_state : PySem.W.findIn K (.ref C_Md5) "_state" = some none)
    (n_Md5_length : PySem.W.findIn K (.ref C_Md5) "_length" = some none)
    (n_Md5_rest : PySem.W.findIn K (.ref C_Md5) "_rest" = some none)
    (z_len : PySem.W.nsIn K mainGlobals "len" = some none)
    (z_range : PySem.W.nsIn K mainGlobals "range" = some none)
    (z_tuple : PySem.W.nsIn K mainGlobals "tuple" = some none)
    (z_zip : PySem.W.nsIn K mainGlobals "zip" = some none)
    (z_int : PySem.W.nsIn K mainGlobals "int" = some none)
    (z_isinstance : PySem.W.nsIn K mainGlobals "isinstance" = some none)
    (z_bool : PySem.W.nsIn K mainGlobals "bool" = some none)
    (z_list : PySem.W.nsIn K mainGlobals "list" = some none)
    (q_WORD : PySem.W.nsIn K mainGlobals "_WORD" = some (some u_WORD)) (r_WORD : RelV (.int (4294967295)) u_WORD)
    (q_START : PySem.W.nsIn K mainGlobals "_START" = some (some (.ref A_START))) (l_START : K.lookup A_START = some ⟨.type "tuple", dxSTART, .seq (List.toArray [wSTART_0, wSTART_1, wSTART_2, wSTART_3]) nxSTART, sxSTART⟩)
    (r_START_0 : RelV (.int 1732584193) wSTART_0)
    (r_START_1 : RelV (.int 4023233417) wSTART_1)
    (r_START_2 : RelV (.int 2562383102) wSTART_2)
    (r_START_3 : RelV (.int 271733878) wSTART_3)
    (q_ROTATIONS : PySem.W.nsIn K mainGlobals "_ROTATIONS" = some (some (.ref A_ROTATIONS)))
    (l_ROTATIONS : K.lookup A_ROTATIONS = some ⟨.type "tuple", dxROTATIONS, .seq (List.toArray [wROTATIONS_0, wROTATIONS_1, wROTATIONS_2, wROTATIONS_3]) nxROTATIONS, sxROTATIONS⟩)
    (r_ROTATIONS_0 : RelV (.ref A_ROTATIONS_0) wROTATIONS_0)
    (r_ROTATIONS_1 : RelV (.ref A_ROTATIONS_1) wROTATIONS_1)
    (r_ROTATIONS_2 : RelV (.ref A_ROTATIONS_2) wROTATIONS_2)
    (r_ROTATIONS_3 : RelV (.ref A_ROTATIONS_3) wROTATIONS_3)
    (l_ROTATIONS_0 : K.lookup A_ROTATIONS_0 = some ⟨.type "tuple", dxROTATIONS_0, .seq (List.toArray [wROTATIONS_0_0, wROTATIONS_0_1, wROTATIONS_0_2, wROTATIONS_0_3]) nxROTATIONS_0, sxROTATIONS_0⟩)
    (r_ROTATIONS_0_0 : RelV (.int 7) wROTATIONS_0_0)
    (r_ROTATIONS_0_1 : RelV (.int 12) wROTATIONS_0_1)
    (r_ROTATIONS_0_2 : RelV (.int 17) wROTATIONS_0_2)
    (r_ROTATIONS_0_3 : RelV (.int 22) wROTATIONS_0_3)
    (l_ROTATIONS_1 : K.lookup A_ROTATIONS_1 = some ⟨.type "tuple", dxROTATIONS_1, .seq (List.toArray [wROTATIONS_1_0, wROTATIONS_1_1, wROTATIONS_1_2, wROTATIONS_1_3]) nxROTATIONS_1, sxROTATIONS_1⟩)
    (r_ROTATIONS_1_0 : RelV (.int 5) wROTATIONS_1_0)
    (r_ROTATIONS_1_1 : RelV (.int 9) wROTATIONS_1_1)
    (r_ROTATIONS_1_2 : RelV (.int 14) wROTATIONS_1_2)
    (r_ROTATIONS_1_3 : RelV (.int 20) wROTATIONS_1_3)
    (l_ROTATIONS_2 : K.lookup A_ROTATIONS_2 = some ⟨.type "tuple", dxROTATIONS_2, .seq (List.toArray [wROTATIONS_2_0, wROTATIONS_2_1, wROTATIONS_2_2, wROTATIONS_2_3]) nxROTATIONS_2, sxROTATIONS_2⟩)
    (r_ROTATIONS_2_0 : RelV (.int 4) wROTATIONS_2_0)
    (r_ROTATIONS_2_1 : RelV (.int 11) wROTATIONS_2_1)
    (r_ROTATIONS_2_2 : RelV (.int 16) wROTATIONS_2_2)
    (r_ROTATIONS_2_3 : RelV (.int 23) wROTATIONS_2_3)
    (l_ROTATIONS_3 : K.lookup A_ROTATIONS_3 = some ⟨.type "tuple", dxROTATIONS_3, .seq (List.toArray [wROTATIONS_3_0, wROTATIONS_3_1, wROTATIONS_3_2, wROTATIONS_3_3]) nxROTATIONS_3, sxROTATIONS_3⟩)
    (r_ROTATIONS_3_0 : RelV (.int 6) wROTATIONS_3_0)
    (r_ROTATIONS_3_1 : RelV (.int 10) wROTATIONS_3_1)
    (r_ROTATIONS_3_2 : RelV (.int 15) wROTATIONS_3_2)
    (r_ROTATIONS_3_3 : RelV (.int 21) wROTATIONS_3_3)
    (q_CONSTANTS : PySem.W.nsIn K mainGlobals "_CONSTANTS" = some (some (.ref A_CONSTANTS))) (l_CONSTANTS : K.lookup A_CONSTANTS = some ⟨.type "tuple", dxCONSTANTS, .seq (List.toArray [wCONSTANTS_0, wCONSTANTS_1, wCONSTANTS_2, wCONSTANTS_3, wCONSTANTS_4, wCONSTANTS_5, wCONSTANTS_6, wCONSTANTS_7, wCONSTANTS_8, wCONSTANTS_9, wCONSTANTS_10, wCONSTANTS_11, wCONSTANTS_12, wCONSTANTS_13, wCONSTANTS_14, wCONSTANTS_15, wCONSTANTS_16, wCONSTANTS_17, wCONSTANTS_18, wCONSTANTS_19, wCONSTANTS_20, wCONSTANTS_21, wCONSTANTS_22, wCONSTANTS_23, wCONSTANTS_24, wCONSTANTS_25, wCONSTANTS_26, wCONSTANTS_27, wCONSTANTS_28, wCONSTANTS_29, wCONSTANTS_30, wCONSTANTS_31, wCONSTANTS_32, wCONSTANTS_33, wCONSTANTS_34, wCONSTANTS_35, wCONSTANTS_36, wCONSTANTS_37, wCONSTANTS_38, wCONSTANTS_39, wCONSTANTS_40, wCONSTANTS_41, wCONSTANTS_42, wCONSTANTS_43, wCONSTANTS_44, wCONSTANTS_45, wCONSTANTS_46, wCONSTANTS_47, wCONSTANTS_48, wCONSTANTS_49, wCONSTANTS_50, wCONSTANTS_51, wCONSTANTS_52, wCONSTANTS_53, wCONSTANTS_54, wCONSTANTS_55, wCONSTANTS_56, wCONSTANTS_57, wCONSTANTS_58, wCONSTANTS_59, wCONSTANTS_60, wCONSTANTS_61, wCONSTANTS_62, wCONSTANTS_63]) nxCONSTANTS, sxCONSTANTS⟩)
    (r_CONSTANTS_0 : RelV (.int 3614090360) wCONSTANTS_0)
    (r_CONSTANTS_1 : RelV (.int 3905402710) wCONSTANTS_1)
    (r_CONSTANTS_2 : RelV (.int 606105819) wCONSTANTS_2)
    (r_CONSTANTS_3 : RelV (.int 3250441966) wCONSTANTS_3)
    (r_CONSTANTS_4 : RelV (.int 4118548399) wCONSTANTS_4)
    (r_CONSTANTS_5 : RelV (.int 1200080426) wCONSTANTS_5)
    (r_CONSTANTS_6 : RelV (.int 2821735955) wCONSTANTS_6)
    (r_CONSTANTS_7 : RelV (.int 4249261313) wCONSTANTS_7)
    (r_CONSTANTS_8 : RelV (.int 1770035416) wCONSTANTS_8)
    (r_CONSTANTS_9 : RelV (.int 2336552879) wCONSTANTS_9)
    (r_CONSTANTS_10 : RelV (.int 4294925233) wCONSTANTS_10)
    (r_CONSTANTS_11 : RelV (.int 2304563134) wCONSTANTS_11)
    (r_CONSTANTS_12 : RelV (.int 1804603682) wCONSTANTS_12)
    (r_CONSTANTS_13 : RelV (.int 4254626195) wCONSTANTS_13)
    (r_CONSTANTS_14 : RelV (.int 2792965006) wCONSTANTS_14)
    (r_CONSTANTS_15 : RelV (.int 1236535329) wCONSTANTS_15)
    (r_CONSTANTS_16 : RelV (.int 4129170786) wCONSTANTS_16)
    (r_CONSTANTS_17 : RelV (.int 3225465664) wCONSTANTS_17)
    (r_CONSTANTS_18 : RelV (.int 643717713) wCONSTANTS_18)
    (r_CONSTANTS_19 : RelV (.int 3921069994) wCONSTANTS_19)
    (r_CONSTANTS_20 : RelV (.int 3593408605) wCONSTANTS_20)
    (r_CONSTANTS_21 : RelV (.int 38016083) wCONSTANTS_21)
    (r_CONSTANTS_22 : RelV (.int 3634488961) wCONSTANTS_22)
    (r_CONSTANTS_23 : RelV (.int 3889429448) wCONSTANTS_23)
    (r_CONSTANTS_24 : RelV (.int 568446438) wCONSTANTS_24)
    (r_CONSTANTS_25 : RelV (.int 3275163606) wCONSTANTS_25)
    (r_CONSTANTS_26 : RelV (.int 4107603335) wCONSTANTS_26)
    (r_CONSTANTS_27 : RelV (.int 1163531501) wCONSTANTS_27)
    (r_CONSTANTS_28 : RelV (.int 2850285829) wCONSTANTS_28)
    (r_CONSTANTS_29 : RelV (.int 4243563512) wCONSTANTS_29)
    (r_CONSTANTS_30 : RelV (.int 1735328473) wCONSTANTS_30)
    (r_CONSTANTS_31 : RelV (.int 2368359562) wCONSTANTS_31)
    (r_CONSTANTS_32 : RelV (.int 4294588738) wCONSTANTS_32)
    (r_CONSTANTS_33 : RelV (.int 2272392833) wCONSTANTS_33)
    (r_CONSTANTS_34 : RelV (.int 1839030562) wCONSTANTS_34)
    (r_CONSTANTS_35 : RelV (.int 4259657740) wCONSTANTS_35)
    (r_CONSTANTS_36 : RelV (.int 2763975236) wCONSTANTS_36)
    (r_CONSTANTS_37 : RelV (.int 1272893353) wCONSTANTS_37)
    (r_CONSTANTS_38 : RelV (.int 4139469664) wCONSTANTS_38)
    (r_CONSTANTS_39 : RelV (.int 3200236656) wCONSTANTS_39)
    (r_CONSTANTS_40 : RelV (.int 681279174) wCONSTANTS_40)
    (r_CONSTANTS_41 : RelV (.int 3936430074) wCONSTANTS_41)
    (r_CONSTANTS_42 : RelV (.int 3572445317) wCONSTANTS_42)
    (r_CONSTANTS_43 : RelV (.int 76029189) wCONSTANTS_43)
    (r_CONSTANTS_44 : RelV (.int 3654602809) wCONSTANTS_44)
    (r_CONSTANTS_45 : RelV (.int 3873151461) wCONSTANTS_45)
    (r_CONSTANTS_46 : RelV (.int 530742520) wCONSTANTS_46)
    (r_CONSTANTS_47 : RelV (.int 3299628645) wCONSTANTS_47)
    (r_CONSTANTS_48 : RelV (.int 4096336452) wCONSTANTS_48)
    (r_CONSTANTS_49 : RelV (.int 1126891415) wCONSTANTS_49)
    (r_CONSTANTS_50 : RelV (.int 2878612391) wCONSTANTS_50)
    (r_CONSTANTS_51 : RelV (.int 4237533241) wCONSTANTS_51)
    (r_CONSTANTS_52 : RelV (.int 1700485571) wCONSTANTS_52)
    (r_CONSTANTS_53 : RelV (.int 2399980690) wCONSTANTS_53)
    (r_CONSTANTS_54 : RelV (.int 4293915773) wCONSTANTS_54)
    (r_CONSTANTS_55 : RelV (.int 2240044497) wCONSTANTS_55)
    (r_CONSTANTS_56 : RelV (.int 1873313359) wCONSTANTS_56)
    (r_CONSTANTS_57 : RelV (.int 4264355552) wCONSTANTS_57)
    (r_CONSTANTS_58 : RelV (.int 2734768916) wCONSTANTS_58)
    (r_CONSTANTS_59 : RelV (.int 1309151649) wCONSTANTS_59)
    (r_CONSTANTS_60 : RelV (.int 4149444226) wCONSTANTS_60)
    (r_CONSTANTS_61 : RelV (.int 3174756917) wCONSTANTS_61)
    (r_CONSTANTS_62 : RelV (.int 718787259) wCONSTANTS_62)
    (r_CONSTANTS_63 : RelV (.int 3951481745) wCONSTANTS_63)
    : ∃ fd : FuncData, (∀ (s : Shared) (v : Value), BindsTo s fd ⟨[v], []⟩ [("script", v)]) ∧ ∀ base : Heap, K.In base → base.Ns mainGlobals mg → FnOk l.prog w K mg base CX0 7 fa fd ["script"] (sp_law K) := by
  have e := hfa.symm.trans (PySem.W.mg_of X G a16)
  cases e
  have F1 := fun_mk (st := s_md5) l1 c1 k1
  have b1 := F1.binds (ps := ["data"]) fun _ _ _ _ _ _ us hl => match us, hl with | [_], _ => rfl
  have F2 := fun_mk (st := s_Md5_init) l2 c2 k2
  have b2 := F2.binds (ps := ["self"]) fun _ _ _ _ _ _ us hl => match us, hl with | [_], _ => rfl
  have F3 := fun_mk (st := s_Md5_feed) l3 c3 k3
  have b3 := F3.binds (ps := ["self", "data"]) fun _ _ _ _ _ _ us hl => match us, hl with | [_, _], _ => rfl
  have F4 := fun_mk (st := s_Md5_digest) l4 c4 k4
  have b4 := F4.binds (ps := ["self"]) fun _ _ _ _ _ _ us hl => match us, hl with | [_], _ => rfl
  have F5 := fun_mk (st := s_low_bytes) l5 c5 k5
  have b5 := F5.binds (ps := ["number", "count"]) fun _ _ _ _ _ _ us hl => match us, hl with | [_, _], _ => rfl
  have F6 := fun_mk (st := s_padding) l6 c6 k6
  have b6 := F6.binds (ps := ["length"]) fun _ _ _ _ _ _ us hl => match us, hl with | [_], _ => rfl
  have F7 := fun_mk (st := s_after_blocks) l7 c7 k7
  have b7 := F7.binds (ps := ["state", "data", "stop"]) fun _ _ _ _ _ _ us hl => match us, hl with | [_, _, _], _ => rfl
  have F8 := fun_mk (st := s_words) l8 c8 k8
  have b8 := F8.binds (ps := ["block"]) fun _ _ _ _ _ _ us hl => match us, hl with | [_], _ => rfl
  have F9 := fun_mk (st := s_after_block) l9 c9 k9
  have b9 := F9.binds (ps := ["state", "words"]) fun _ _ _ _ _ _ us hl => match us, hl with | [_, _], _ => rfl
  have F10 := fun_mk (st := s_choice) l10 c10 k10
  have b10 := F10.binds (ps := ["step", "b", "c", "d"]) fun _ _ _ _ _ _ us hl => match us, hl with | [_, _, _, _], _ => rfl
  have F11 := fun_mk (st := s_law_draw) l11 c11 k11
  have b11 := F11.binds (ps := ["cell", "many", "bound"]) fun _ _ _ _ _ _ us hl => match us, hl with | [_, _, _], _ => rfl
  have F12 := fun_mk (st := s_law_is_integer) l12 c12 k12
  have b12 := F12.binds (ps := ["actual"]) fun _ _ _ _ _ _ us hl => match us, hl with | [_], _ => rfl
  have F13 := fun_mk (st := s_law_same) l13 c13 k13
  have b13 := F13.binds (ps := ["actual", "expected"]) fun _ _ _ _ _ _ us hl => match us, hl with | [_, _], _ => rfl
  have F14 := fun_mk (st := s_law_part) l14 c14 k14
  have b14 := F14.binds (ps := ["cell"]) fun _ _ _ _ _ _ us hl => match us, hl with | [_], _ => rfl
  have F15 := fun_mk (st := s_law_asked) l15 c15 k15
  have b15 := F15.binds (ps := ["digest", "fed"]) fun _ _ _ _ _ _ us hl => match us, hl with | [_, _], _ => rfl
  have F16 := fun_mk (st := s_law) l16 c16 k16
  have b16 := F16.binds (ps := ["script"]) fun _ _ _ _ _ _ us hl => match us, hl with | [_], _ => rfl
  let T : TX K mg := ⟨f1, _, F1, b1, (PySem.W.mg_of X G a1), f2, _, F2, b2, f3, _, F3, b3, f4, _, F4, b4, f5, _, F5, b5, (PySem.W.mg_of X G a5), f6, _, F6, b6, (PySem.W.mg_of X G a6), f7, _, F7, b7, (PySem.W.mg_of X G a7), f8, _, F8, b8, (PySem.W.mg_of X G a8), f9, _, F9, b9, (PySem.W.mg_of X G a9), f10, _, F10, b10, (PySem.W.mg_of X G a10), f11, _, F11, b11, (PySem.W.mg_of X G a11), f12, _, F12, b12, (PySem.W.mg_of X G a12), f13, _, F13, b13, (PySem.W.mg_of X G a13), f14, _, F14, b14, (PySem.W.mg_of X G a14), f15, _, F15, b15, (PySem.W.mg_of X G a15), fa, _, F16, b16, (PySem.W.mg_of X G a16), C_Md5, ⟨pg_Md5, hd_Md5, po_Md5, sa_Md5⟩, (PySem.W.mg_of X G aC_Md5), ⟨mk_Md5, a2, i2, kc_Md5⟩, ⟨a3, i3, k3⟩, ⟨a4, i4, k4⟩, n_Md5_state, n_Md5_length, n_Md5_rest, (PySem.W.mg_none_of X G z_len), (PySem.W.mg_none_of X G z_range), (PySem.W.mg_none_of X G z_tuple), (PySem.W.mg_none_of X G z_zip), (PySem.W.mg_none_of X G z_int), (PySem.W.mg_none_of X G z_isinstance), (PySem.W.mg_none_of X G z_bool), (PySem.W.mg_none_of X G z_list), u_WORD, (PySem.W.mg_of X G q_WORD), r_WORD, A_START, (PySem.W.mg_of X G q_START), (fun H => .inr ⟨_, _, _, l_START, rfl, rfl, Nat.le_of_ble_eq_true rfl, (.cons r_START_0 (.cons r_START_1 (.cons r_START_2 (.cons r_START_3 .nil))))⟩), A_ROTATIONS_0, (fun H => .inr ⟨_, _, _, l_ROTATIONS_0, rfl, rfl, Nat.le_of_ble_eq_true rfl, (.cons r_ROTATIONS_0_0 (.cons r_ROTATIONS_0_1 (.cons r_ROTATIONS_0_2 (.cons r_ROTATIONS_0_3 .nil))))⟩), A_ROTATIONS_1, (fun H => .inr ⟨_, _, _, l_ROTATIONS_1, rfl, rfl, Nat.le_of_ble_eq_true rfl, (.cons r_ROTATIONS_1_0 (.cons r_ROTATIONS_1_1 (.cons r_ROTATIONS_1_2 (.cons r_ROTATIONS_1_3 .nil))))⟩), A_ROTATIONS_2, (fun H => .inr ⟨_, _, _, l_ROTATIONS_2, rfl, rfl, Nat.le_of_ble_eq_true rfl, (.cons r_ROTATIONS_2_0 (.cons r_ROTATIONS_2_1 (.cons r_ROTATIONS_2_2 (.cons r_ROTATIONS_2_3 .nil))))⟩), A_ROTATIONS_3, (fun H => .inr ⟨_, _, _, l_ROTATIONS_3, rfl, rfl, Nat.le_of_ble_eq_true rfl, (.cons r_ROTATIONS_3_0 (.cons r_ROTATIONS_3_1 (.cons r_ROTATIONS_3_2 (.cons r_ROTATIONS_3_3 .nil))))⟩), A_ROTATIONS, (PySem.W.mg_of X G q_ROTATIONS), (fun H => .inr ⟨_, _, _, l_ROTATIONS, rfl, rfl, Nat.le_of_ble_eq_true rfl, (.cons r_ROTATIONS_0 (.cons r_ROTATIONS_1 (.cons r_ROTATIONS_2 (.cons r_ROTATIONS_3 .nil))))⟩), A_CONSTANTS, (PySem.W.mg_of X G q_CONSTANTS), (fun H => .inr ⟨_, _, _, l_CONSTANTS, rfl, rfl, Nat.le_of_ble_eq_true rfl, (.cons r_CONSTANTS_0 (.cons r_CONSTANTS_1 (.cons r_CONSTANTS_2 (.cons r_CONSTANTS_3 (.cons r_CONSTANTS_4 (.cons r_CONSTANTS_5 (.cons r_CONSTANTS_6 (.cons r_CONSTANTS_7 (.cons r_CONSTANTS_8 (.cons r_CONSTANTS_9 (.cons r_CONSTANTS_10 (.cons r_CONSTANTS_11 (.cons r_CONSTANTS_12 (.cons r_CONSTANTS_13 (.cons r_CONSTANTS_14 (.cons r_CONSTANTS_15 (.cons r_CONSTANTS_16 (.cons r_CONSTANTS_17 (.cons r_CONSTANTS_18 (.cons r_CONSTANTS_19 (.cons r_CONSTANTS_20 (.cons r_CONSTANTS_21 (.cons r_CONSTANTS_22 (.cons r_CONSTANTS_23 (.cons r_CONSTANTS_24 (.cons r_CONSTANTS_25 (.cons r_CONSTANTS_26 (.cons r_CONSTANTS_27 (.cons r_CONSTANTS_28 (.cons r_CONSTANTS_29 (.cons r_CONSTANTS_30 (.cons r_CONSTANTS_31 (.cons r_CONSTANTS_32 (.cons r_CONSTANTS_33 (.cons r_CONSTANTS_34 (.cons r_CONSTANTS_35 (.cons r_CONSTANTS_36 (.cons r_CONSTANTS_37 (.cons r_CONSTANTS_38 (.cons r_CONSTANTS_39 (.cons r_CONSTANTS_40 (.cons r_CONSTANTS_41 (.cons r_CONSTANTS_42 (.cons r_CONSTANTS_43 (.cons r_CONSTANTS_44 (.cons r_CONSTANTS_45 (.cons r_CONSTANTS_46 (.cons r_CONSTANTS_47 (.cons r_CONSTANTS_48 (.cons r_CONSTANTS_49 (.cons r_CONSTANTS_50 (.cons r_CONSTANTS_51 (.cons r_CONSTANTS_52 (.cons r_CONSTANTS_53 (.cons r_CONSTANTS_54 (.cons r_CONSTANTS_55 (.cons r_CONSTANTS_56 (.cons r_CONSTANTS_57 (.cons r_CONSTANTS_58 (.cons r_CONSTANTS_59 (.cons r_CONSTANTS_60 (.cons r_CONSTANTS_61 (.cons r_CONSTANTS_62 (.cons r_CONSTANTS_63 .nil))))))))))))))))))))))))))))))))))))))))))))))))))))))))))))))))⟩)⟩
  exact ⟨_, fun s v => .of_eq rfl, fun base _ _ => ok_law T⟩
end K08
open PySem PySem.W PyProof.Rows
set_option maxRecDepth 100000 in
set_option maxHeartbeats 0 in
theorem PySem.Challenge.cw_monochord_k08_digests_in_parts_holds : PySem.Challenge.rw_monochord_k08_digests_in_parts.Holds := by
  w_on; o_law; k_head; (case hw => w_witness2)
  k_fill
  refine L2.walk_of (l := PySem.Challenge.rw_monochord_k08_digests_in_parts) (n := 63) (k := 7) (x := "script") (CX := fun _ => L2.CX0) (sp := fun w => K08.sp_law _) rfl (by decide) rfl ⟨rfl, by decide, by decide⟩ (fun w h Y => PySem.W.kIn_of Y) ?F (fun _ _ a ns hl _ hS => ⟨a, ns, rfl, hS, hl, fun _ => rfl⟩) (fun _ _ _ _ _ h => h)
  case F =>
    intro w mg fa h KX G hmg
    refine' K08.all_mk KX G hmg ?a1 ?l1 ?c1 ?k1 ?a2 ?i2 ?l2 ?c2 ?k2 ?a3 ?i3 ?l3 ?c3 ?k3 ?a4 ?i4 ?l4 ?c4 ?k4 ?a5 ?l5 ?c5 ?k5 ?a6 ?l6 ?c6 ?k6 ?a7 ?l7 ?c7 ?k7 ?a8 ?l8 ?c8 ?k8 ?a9 ?l9 ?c9 ?k9 ?a10 ?l10 ?c10 ?k10 ?a11 ?l11 ?c11 ?k11 ?a12 ?l12 ?c12 ?k12 ?a13 ?l13 ?c13 ?k13 ?a14 ?l14 ?c14 ?k14 ?a15 ?l15 ?c15 ?k15 ?a16 ?l16 ?c16 ?k16 ?aC_Md5 ?pg_Md5 ?hd_Md5 ?po_Md5 ?sa_Md5 ?mk_Md5 ?kc_Md5 ?n_Md5_state ?n_Md5_length ?n_Md5_rest ?z_len ?z_range ?z_tuple ?z_zip ?z_int ?z_isinstance ?z_bool ?z_list ?q_WORD ?r_WORD ?q_START ?l_START ?r_START_0 ?r_START_1 ?r_START_2 ?r_START_3 ?q_ROTATIONS ?l_ROTATIONS ?r_ROTATIONS_0 ?r_ROTATIONS_1 ?r_ROTATIONS_2 ?r_ROTATIONS_3 ?l_ROTATIONS_0 ?r_ROTATIONS_0_0 ?r_ROTATIONS_0_1 ?r_ROTATIONS_0_2 ?r_ROTATIONS_0_3 ?l_ROTATIONS_1 ?r_ROTATIONS_1_0 ?r_ROTATIONS_1_1 ?r_ROTATIONS_1_2 ?r_ROTATIONS_1_3 ?l_ROTATIONS_2 ?r_ROTATIONS_2_0 ?r_ROTATIONS_2_1 ?r_ROTATIONS_2_2 ?r_ROTATIONS_2_3 ?l_ROTATIONS_3 ?r_ROTATIONS_3_0 ?r_ROTATIONS_3_1 ?r_ROTATIONS_3_2 ?r_ROTATIONS_3_3 ?q_CONSTANTS ?l_CONSTANTS ?r_CONSTANTS_0 ?r_CONSTANTS_1 ?r_CONSTANTS_2 ?r_CONSTANTS_3 ?r_CONSTANTS_4 ?r_CONSTANTS_5 ?r_CONSTANTS_6 ?r_CONSTANTS_7 ?r_CONSTANTS_8 ?r_CONSTANTS_9 ?r_CONSTANTS_10 ?r_CONSTANTS_11 ?r_CONSTANTS_12 ?r_CONSTANTS_13 ?r_CONSTANTS_14 ?r_CONSTANTS_15 ?r_CONSTANTS_16 ?r_CONSTANTS_17 ?r_CONSTANTS_18 ?r_CONSTANTS_19 ?r_CONSTANTS_20 ?r_CONSTANTS_21 ?r_CONSTANTS_22 ?r_CONSTANTS_23 ?r_CONSTANTS_24 ?r_CONSTANTS_25 ?r_CONSTANTS_26 ?r_CONSTANTS_27 ?r_CONSTANTS_28 ?r_CONSTANTS_29 ?r_CONSTANTS_30 ?r_CONSTANTS_31 ?r_CONSTANTS_32 ?r_CONSTANTS_33 ?r_CONSTANTS_34 ?r_CONSTANTS_35 ?r_CONSTANTS_36 ?r_CONSTANTS_37 ?r_CONSTANTS_38 ?r_CONSTANTS_39 ?r_CONSTANTS_40 ?r_CONSTANTS_41 ?r_CONSTANTS_42 ?r_CONSTANTS_43 ?r_CONSTANTS_44 ?r_CONSTANTS_45 ?r_CONSTANTS_46 ?r_CONSTANTS_47 ?r_CONSTANTS_48 ?r_CONSTANTS_49 ?r_CONSTANTS_50 ?r_CONSTANTS_51 ?r_CONSTANTS_52 ?r_CONSTANTS_53 ?r_CONSTANTS_54 ?r_CONSTANTS_55 ?r_CONSTANTS_56 ?r_CONSTANTS_57 ?r_CONSTANTS_58 ?r_CONSTANTS_59 ?r_CONSTANTS_60 ?r_CONSTANTS_61 ?r_CONSTANTS_62 ?r_CONSTANTS_63
    (case aC_Md5 => k_is)
    (case a1 => k_is)
    (case l1 => k_is)
    (case c1 => k_is)
    (case k1 => k_is)
    (case a2 => k_is)
    (case i2 => k_is)
    (case l2 => k_is)
    (case c2 => k_is)
    (case k2 => k_is)
    (case a3 => k_is)
    (case i3 => k_is)
    (case l3 => k_is)
    (case c3 => k_is)
    (case k3 => k_is)
    (case a4 => k_is)
    (case i4 => k_is)
    (case l4 => k_is)
    (case c4 => k_is)
    (case k4 => k_is)
    (case a5 => k_is)
    (case l5 => k_is)
    (case c5 => k_is)
    (case k5 => k_is)
    (case a6 => k_is)
    (case l6 => k_is)
    (case c6 => k_is)
    (case k6 => k_is)
    (case a7 => k_is)
    (case l7 => k_is)
    (case c7 => k_is)
    (case k7 => k_is)
    (case a8 => k_is)
    (case l8 => k_is)
    (case c8 => k_is)
    (case k8 => k_is)
    (case a9 => k_is)
    (case l9 => k_is)
    (case c9 => k_is)
    (case k9 => k_is)
    (case a10 => k_is)
    (case l10 => k_is)
    (case c10 => k_is)
    (case k10 => k_is)
    (case a11 => k_is)
    (case l11 => k_is)
    (case c11 => k_is)
    (case k11 => k_is)
    (case a12 => k_is)
    (case l12 => k_is)
    (case c12 => k_is)
    (case k12 => k_is)
    (case a13 => k_is)
    (case l13 => k_is)
    (case c13 => k_is)
    (case k13 => k_is)
    (case a14 => k_is)
    (case l14 => k_is)
    (case c14 => k_is)
    (case k14 => k_is)
    (case a15 => k_is)
    (case l15 => k_is)
    (case c15 => k_is)
    (case k15 => k_is)
    (case a16 => k_is)
    (case l16 => k_is)
    (case c16 => k_is)
    (case k16 => k_is)
    (case pg_Md5 => k_is)
    (case hd_Md5 => k_is)
    (case po_Md5 => k_is)
    (case sa_Md5 => k_is)
    (case mk_Md5 => k_is)
    (case kc_Md5 => k_is)
    (case n_Md5_state => k_is)
    (case n_Md5_length => k_is)
    (case n_Md5_rest => k_is)
    (case z_len => k_is)
    (case z_range => k_is)
    (case z_tuple => k_is)
    (case z_zip => k_is)
    (case z_int => k_is)
    (case z_isinstance => k_is)
    (case z_bool => k_is)
    (case z_list => k_is)
    (case q_WORD => k_is)
    (case r_WORD => first | rfl | exact ⟨_, rfl⟩)
    (case q_START => k_is)
    (case l_START => k_is)
    (case r_START_0 => first | rfl | exact ⟨_, rfl⟩)
    (case r_START_1 => first | rfl | exact ⟨_, rfl⟩)
    (case r_START_2 => first | rfl | exact ⟨_, rfl⟩)
    (case r_START_3 => first | rfl | exact ⟨_, rfl⟩)
    (case q_ROTATIONS => k_is)
    (case l_ROTATIONS => k_is)
    (case r_ROTATIONS_0 => first | rfl | exact ⟨_, rfl⟩)
    (case r_ROTATIONS_1 => first | rfl | exact ⟨_, rfl⟩)
    (case r_ROTATIONS_2 => first | rfl | exact ⟨_, rfl⟩)
    (case r_ROTATIONS_3 => first | rfl | exact ⟨_, rfl⟩)
    (case l_ROTATIONS_0 => k_is)
    (case r_ROTATIONS_0_0 => first | rfl | exact ⟨_, rfl⟩)
    (case r_ROTATIONS_0_1 => first | rfl | exact ⟨_, rfl⟩)
    (case r_ROTATIONS_0_2 => first | rfl | exact ⟨_, rfl⟩)
    (case r_ROTATIONS_0_3 => first | rfl | exact ⟨_, rfl⟩)
    (case l_ROTATIONS_1 => k_is)
    (case r_ROTATIONS_1_0 => first | rfl | exact ⟨_, rfl⟩)
    (case r_ROTATIONS_1_1 => first | rfl | exact ⟨_, rfl⟩)
    (case r_ROTATIONS_1_2 => first | rfl | exact ⟨_, rfl⟩)
    (case r_ROTATIONS_1_3 => first | rfl | exact ⟨_, rfl⟩)
    (case l_ROTATIONS_2 => k_is)
    (case r_ROTATIONS_2_0 => first | rfl | exact ⟨_, rfl⟩)
    (case r_ROTATIONS_2_1 => first | rfl | exact ⟨_, rfl⟩)
    (case r_ROTATIONS_2_2 => first | rfl | exact ⟨_, rfl⟩)
    (case r_ROTATIONS_2_3 => first | rfl | exact ⟨_, rfl⟩)
    (case l_ROTATIONS_3 => k_is)
    (case r_ROTATIONS_3_0 => first | rfl | exact ⟨_, rfl⟩)
    (case r_ROTATIONS_3_1 => first | rfl | exact ⟨_, rfl⟩)
    (case r_ROTATIONS_3_2 => first | rfl | exact ⟨_, rfl⟩)
    (case r_ROTATIONS_3_3 => first | rfl | exact ⟨_, rfl⟩)
    (case q_CONSTANTS => k_is)
    (case l_CONSTANTS => k_is)
    (case r_CONSTANTS_0 => first | rfl | exact ⟨_, rfl⟩)
    (case r_CONSTANTS_1 => first | rfl | exact ⟨_, rfl⟩)
    (case r_CONSTANTS_2 => first | rfl | exact ⟨_, rfl⟩)
    (case r_CONSTANTS_3 => first | rfl | exact ⟨_, rfl⟩)
    (case r_CONSTANTS_4 => first | rfl | exact ⟨_, rfl⟩)
    (case r_CONSTANTS_5 => first | rfl | exact ⟨_, rfl⟩)
    (case r_CONSTANTS_6 => first | rfl | exact ⟨_, rfl⟩)
    (case r_CONSTANTS_7 => first | rfl | exact ⟨_, rfl⟩)
    (case r_CONSTANTS_8 => first | rfl | exact ⟨_, rfl⟩)
    (case r_CONSTANTS_9 => first | rfl | exact ⟨_, rfl⟩)
    (case r_CONSTANTS_10 => first | rfl | exact ⟨_, rfl⟩)
    (case r_CONSTANTS_11 => first | rfl | exact ⟨_, rfl⟩)
    (case r_CONSTANTS_12 => first | rfl | exact ⟨_, rfl⟩)
    (case r_CONSTANTS_13 => first | rfl | exact ⟨_, rfl⟩)
    (case r_CONSTANTS_14 => first | rfl | exact ⟨_, rfl⟩)
    (case r_CONSTANTS_15 => first | rfl | exact ⟨_, rfl⟩)
    (case r_CONSTANTS_16 => first | rfl | exact ⟨_, rfl⟩)
    (case r_CONSTANTS_17 => first | rfl | exact ⟨_, rfl⟩)
    (case r_CONSTANTS_18 => first | rfl | exact ⟨_, rfl⟩)
    (case r_CONSTANTS_19 => first | rfl | exact ⟨_, rfl⟩)
    (case r_CONSTANTS_20 => first | rfl | exact ⟨_, rfl⟩)
    (case r_CONSTANTS_21 => first | rfl | exact ⟨_, rfl⟩)
    (case r_CONSTANTS_22 => first | rfl | exact ⟨_, rfl⟩)
    (case r_CONSTANTS_23 => first | rfl | exact ⟨_, rfl⟩)
    (case r_CONSTANTS_24 => first | rfl | exact ⟨_, rfl⟩)
    (case r_CONSTANTS_25 => first | rfl | exact ⟨_, rfl⟩)
    (case r_CONSTANTS_26 => first | rfl | exact ⟨_, rfl⟩)
    (case r_CONSTANTS_27 => first | rfl | exact ⟨_, rfl⟩)
    (case r_CONSTANTS_28 => first | rfl | exact ⟨_, rfl⟩)
    (case r_CONSTANTS_29 => first | rfl | exact ⟨_, rfl⟩)
    (case r_CONSTANTS_30 => first | rfl | exact ⟨_, rfl⟩)
    (case r_CONSTANTS_31 => first | rfl | exact ⟨_, rfl⟩)
    (case r_CONSTANTS_32 => first | rfl | exact ⟨_, rfl⟩)
    (case r_CONSTANTS_33 => first | rfl | exact ⟨_, rfl⟩)
    (case r_CONSTANTS_34 => first | rfl | exact ⟨_, rfl⟩)
    (case r_CONSTANTS_35 => first | rfl | exact ⟨_, rfl⟩)
    (case r_CONSTANTS_36 => first | rfl | exact ⟨_, rfl⟩)
    (case r_CONSTANTS_37 => first | rfl | exact ⟨_, rfl⟩)
    (case r_CONSTANTS_38 => first | rfl | exact ⟨_, rfl⟩)
    (case r_CONSTANTS_39 => first | rfl | exact ⟨_, rfl⟩)
    (case r_CONSTANTS_40 => first | rfl | exact ⟨_, rfl⟩)
    (case r_CONSTANTS_41 => first | rfl | exact ⟨_, rfl⟩)
    (case r_CONSTANTS_42 => first | rfl | exact ⟨_, rfl⟩)
    (case r_CONSTANTS_43 => first | rfl | exact ⟨_, rfl⟩)
    (case r_CONSTANTS_44 => first | rfl | exact ⟨_, rfl⟩)
    (case r_CONSTANTS_45 => first | rfl | exact ⟨_, rfl⟩)
    (case r_CONSTANTS_46 => first | rfl | exact ⟨_, rfl⟩)
    (case r_CONSTANTS_47 => first | rfl | exact ⟨_, rfl⟩)
    (case r_CONSTANTS_48 => first | rfl | exact ⟨_, rfl⟩)
    (case r_CONSTANTS_49 => first | rfl | exact ⟨_, rfl⟩)
    (case r_CONSTANTS_50 => first | rfl | exact ⟨_, rfl⟩)
    (case r_CONSTANTS_51 => first | rfl | exact ⟨_, rfl⟩)
    (case r_CONSTANTS_52 => first | rfl | exact ⟨_, rfl⟩)
    (case r_CONSTANTS_53 => first | rfl | exact ⟨_, rfl⟩)
    (case r_CONSTANTS_54 => first | rfl | exact ⟨_, rfl⟩)
    (case r_CONSTANTS_55 => first | rfl | exact ⟨_, rfl⟩)
    (case r_CONSTANTS_56 => first | rfl | exact ⟨_, rfl⟩)
    (case r_CONSTANTS_57 => first | rfl | exact ⟨_, rfl⟩)
    (case r_CONSTANTS_58 => first | rfl | exact ⟨_, rfl⟩)
    (case r_CONSTANTS_59 => first | rfl | exact ⟨_, rfl⟩)
    (case r_CONSTANTS_60 => first | rfl | exact ⟨_, rfl⟩)
    (case r_CONSTANTS_61 => first | rfl | exact ⟨_, rfl⟩)
    (case r_CONSTANTS_62 => first | rfl | exact ⟨_, rfl⟩)
    (case r_CONSTANTS_63 => first | rfl | exact ⟨_, rfl⟩)
