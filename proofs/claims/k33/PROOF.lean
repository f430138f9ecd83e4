import PyProof.Rows.All
import Wide.All
import OpenK.AllK
import Wide.FinOn
import HandS.ForMost
import HandS.Steps
import HandS.Evl
import HandS.IsInst
import HandS.Wide
import HandS.Defaults
import HandS.MakeKwOnly
import PyProof.P3Eq
import PySem.Challenge.RW_monochord_k33_check_frame
set_option Elab.async false
set_option linter.all false
set_option maxRecDepth 100000
set_option maxHeartbeats 4000000
namespace K33
open PySem PySem.Spec PyProof.Rows L2 Evl
def topS (i : Nat) : Stmt := PySem.Challenge.pw_monochord_k33_check_frame.main.body.getD i (.Pass ⟨0, 0, 0, 0⟩)
abbrev s_StreamInfo_init : Stmt := inClass (topS 2) 0
theorem sc_StreamInfo_init : FnScope ["self", "least_block", "greatest_block", "least_frame", "greatest_frame", "rate", "channel_count", "depth", "length", "digest"] ["self", "least_block", "greatest_block", "least_frame", "greatest_frame", "rate", "channel_count", "depth", "length", "digest"] (defScope s_StreamInfo_init) := ⟨rfl, rfl, rfl, by decide +kernel, rfl, by decide +kernel, by decide +kernel⟩
abbrev s_FrameHeader_init : Stmt := inClass (topS 4) 0
theorem sc_FrameHeader_init : FnScope ["self", "variable", "block_size", "rate", "channels", "assignment", "depth", "number"] ["self", "variable", "block_size", "rate", "channels", "assignment", "depth", "number"] (defScope s_FrameHeader_init) := ⟨rfl, rfl, rfl, by decide +kernel, rfl, by decide +kernel, by decide +kernel⟩
abbrev s_Earlier_init : Stmt := inClass (topS 6) 0
theorem sc_Earlier_init : FnScope ["self", "count", "samples", "variable", "first_size", "least_size", "is_uniform"] ["self", "count", "samples", "variable", "first_size", "least_size", "is_uniform"] (defScope s_Earlier_init) := ⟨rfl, rfl, rfl, by decide +kernel, rfl, by decide +kernel, by decide +kernel⟩
abbrev s_Earlier_followed_by : Stmt := inClass (topS 6) 1
theorem sc_Earlier_followed_by : FnScope ["self", "variable", "size"] ["self", "variable", "size"] (defScope s_Earlier_followed_by) := ⟨rfl, rfl, rfl, by decide +kernel, rfl, by decide +kernel, by decide +kernel⟩
abbrev s_no_frames : Stmt := topS 7
theorem sc_no_frames : FnScope [] [] (defScope s_no_frames) := ⟨rfl, rfl, rfl, by decide +kernel, rfl, by decide +kernel, by decide +kernel⟩
abbrev s_has_form : Stmt := topS 8
theorem sc_has_form : FnScope ["header", "info"] ["header", "info"] (defScope s_has_form) := ⟨rfl, rfl, rfl, by decide +kernel, rfl, by decide +kernel, by decide +kernel⟩
abbrev s_fault_behind : Stmt := topS 9
theorem sc_fault_behind : FnScope ["info", "earlier", "header", "length"] ["info", "earlier", "header", "length"] (defScope s_fault_behind) := ⟨rfl, rfl, rfl, by decide +kernel, rfl, by decide +kernel, by decide +kernel⟩
abbrev s_is_of_the_stream : Stmt := topS 10
theorem sc_is_of_the_stream : FnScope ["info", "earlier", "header"] ["info", "earlier", "header"] (defScope s_is_of_the_stream) := ⟨rfl, rfl, rfl, by decide +kernel, rfl, by decide +kernel, by decide +kernel⟩
abbrev s_size_allowed : Stmt := topS 11
theorem sc_size_allowed : FnScope ["info", "earlier", "header"] ["info", "earlier", "header"] (defScope s_size_allowed) := ⟨rfl, rfl, rfl, by decide +kernel, rfl, by decide +kernel, by decide +kernel⟩
abbrev s_length_allowed : Stmt := topS 12
theorem sc_length_allowed : FnScope ["info", "length"] ["info", "length"] (defScope s_length_allowed) := ⟨rfl, rfl, rfl, by decide +kernel, rfl, by decide +kernel, by decide +kernel⟩
abbrev s_check_frame : Stmt := topS 14
theorem sc_check_frame : FnScope ["info", "earlier", "header", "length", "told", "variable", "size"] ["info", "earlier", "header", "length"] (defScope s_check_frame) := ⟨rfl, rfl, rfl, by decide +kernel, rfl, by decide +kernel, by decide +kernel⟩
abbrev s_law_cell : Stmt := topS 16
theorem sc_law_cell : FnScope ["script", "k"] ["script", "k"] (defScope s_law_cell) := ⟨rfl, rfl, rfl, by decide +kernel, rfl, by decide +kernel, by decide +kernel⟩
abbrev s_law_earlier : Stmt := topS 17
theorem sc_law_earlier : FnScope ["script", "varies", "most", "earlier", "k", "cell", "size"] ["script", "varies", "most"] (defScope s_law_earlier) := ⟨rfl, rfl, rfl, by decide +kernel, rfl, by decide +kernel, by decide +kernel⟩
abbrev s_law_due : Stmt := topS 18
theorem sc_law_due : FnScope ["limits", "earlier", "drawn", "least", "most", "short", "far", "length", "varies", "size", "index", "fits", "many", "total", "one", "expected"] ["limits", "earlier", "drawn"] (defScope s_law_due) := ⟨rfl, rfl, rfl, by decide +kernel, rfl, by decide +kernel, by decide +kernel⟩
abbrev s_law : Stmt := topS 19
theorem sc_law : FnScope ["script", "cell", "least", "most", "short", "far", "varies", "other", "earlier", "total", "length", "speed", "bits", "streams", "info", "turn", "index", "size", "wrong", "head", "many", "given", "actual", "due", "one", "k"] ["script"] (defScope s_law) := ⟨rfl, rfl, rfl, by decide +kernel, rfl, by decide +kernel, by decide +kernel⟩
theorem hu64 {A : Around} {k : Nat} (hr : Room k A) : A.units + 64 < cLine := hr.units
/-! ### short words for readings -/
theorem ret_eq {v w : V} {H H' : Hp} {Q : VK} (k : RetV v H Q) (ex : Ex H H') (e : w = v) : Q w H' := e ▸ k H' ex
/-- isinstance(x, T), T a built-in class -/
theorem ev_isi {K : PySem.W.Frag} {σ : L2.St} {H : Hp} {ta : TE} {x : V} {t : String} {T : String} {b : Bool} (ha : Ev ta σ H x) (ht : ∀ H1, Ex H H1 → TyX K H1 x (.type t)) (hk : kitB t T = some b) :
    Ev (tCB (rIsi K) (tCons ta (tCons (tC (.ty T)) tNil))) σ H (.bl b) :=
  ev_cb (ea_cons ha (ea_cons ev_c ea_nil)) fun H1 e Q q => ⟨x, .ty T, _, _, b, rfl, .ty T, ht H1 e, kit_ty hk, q H1 (Ex.refl H1)⟩
theorem isi_int {K : PySem.W.Frag} {H : Hp} {i : Int} : ∀ H1, Ex H H1 → TyX K H1 (V.int i) (.type "int") := fun _ _ => .base (.int _)
theorem isi_bl {K : PySem.W.Frag} {H : Hp} {b : Bool} : ∀ H1, Ex H H1 → TyX K H1 (V.bl b) (.type "bool") := fun _ _ => .base (.bl _)
theorem isi_non {K : PySem.W.Frag} {H : Hp} : ∀ H1, Ex H H1 → TyX K H1 V.non (.type "NoneType") := fun _ _ => .base .non
theorem isi_lst {K : PySem.W.Frag} {H : Hp} {a : Addr} {xs : List V} (h : H a = some (.lst xs)) : ∀ H1, Ex H H1 → TyX K H1 (V.ref a) (.type "list") := fun _ e => .base (.lst (e _ _ h))
theorem isi_tup {K : PySem.W.Frag} {H : Hp} {a : Addr} {xs : List V} (h : H a = some (.tup xs)) : ∀ H1, Ex H H1 → TyX K H1 (V.ref a) (.type "tuple") := fun _ e => .base (.tup (e _ _ h))
theorem kit_ii : kitB "int" "int" = some true := by decide +kernel
theorem kit_ib : kitB "int" "bool" = some false := by decide +kernel
theorem kit_bb : kitB "bool" "bool" = some true := by decide +kernel
theorem kit_bi : kitB "bool" "int" = some true := by decide +kernel
theorem kit_ll : kitB "list" "list" = some true := by decide +kernel
theorem kit_tt : kitB "tuple" "tuple" = some true := by decide +kernel
theorem ev_isiI {K : PySem.W.Frag} {σ : L2.St} {H : Hp} {ta : TE} {i : Int} (ha : Ev ta σ H (.int i)) : Ev (tCB (rIsi K) (tCons ta (tCons (tC (.ty "int")) tNil))) σ H (.bl true) := ev_isi ha isi_int kit_ii
theorem ev_isiB {K : PySem.W.Frag} {σ : L2.St} {H : Hp} {ta : TE} {i : Int} (ha : Ev ta σ H (.int i)) : Ev (tCB (rIsi K) (tCons ta (tCons (tC (.ty "bool")) tNil))) σ H (.bl false) := ev_isi ha isi_int kit_ib
theorem ev_isiL {K : PySem.W.Frag} {σ : L2.St} {H : Hp} {ta : TE} {a : Addr} {xs : List V} (ha : Ev ta σ H (.ref a)) (h : H a = some (.lst xs)) : Ev (tCB (rIsi K) (tCons ta (tCons (tC (.ty "list")) tNil))) σ H (.bl true) := ev_isi ha (isi_lst h) kit_ll
theorem ev_isiBB {K : PySem.W.Frag} {σ : L2.St} {H : Hp} {ta : TE} {b : Bool} (ha : Ev ta σ H (.bl b)) : Ev (tCB (rIsi K) (tCons ta (tCons (tC (.ty "bool")) tNil))) σ H (.bl true) := ev_isi ha isi_bl kit_bb
theorem ev_chain {σ : L2.St} {H : Hp} {ta tb tc : TE} {g g' : Int → Int → Bool} {a b c : Int} (ha : Ev ta σ H (.int a)) (hb : Ev tb σ H (.int b)) (hc : Ev tc σ H (.int c)) :
    Ev (tChain (rI0 fun i j => .bl (g i j)) (rI0 fun i j => .bl (g' i j)) ta tb tc) σ H (.bl (g a b && g' b c)) := fun H1 e Q q =>
  ha H1 e _ fun H2 e2 => hb H2 (e.trans e2) _ fun H3 e3 => ⟨a, b, rfl, rfl, g a b, rfl, by
    cases hg : g a b with
    | true =>
      rw [if_pos rfl]
      rw [hg, Bool.true_and] at q
      exact hc H3 ((e.trans e2).trans e3) _ fun H4 e4 => ⟨b, c, rfl, rfl, q H4 ((e2.trans e3).trans e4)⟩
    | false =>
      rw [if_neg (by decide)]
      rw [hg, Bool.false_and] at q
      exact q H3 (e2.trans e3)⟩
theorem ev_isN {σ : L2.St} {H : Hp} {ta : TE} {x : V} (ha : Ev ta σ H x) : Ev (tOp rIsN ta (tC .non)) σ H (.bl (decide (x = .non))) := fun H1 e Q q => ha H1 e _ fun H2 e2 => ⟨rfl, q H2 e2⟩
theorem ev_notN {σ : L2.St} {H : Hp} {ta : TE} {x : V} (ha : Ev ta σ H x) : Ev (tOp rNotN ta (tC .non)) σ H (.bl (!decide (x = .non))) := fun H1 e Q q => ha H1 e _ fun H2 e2 => ⟨rfl, q H2 e2⟩
theorem ev_min2 {σ : L2.St} {H : Hp} {ta tb : TE} {i j : Int} (ha : Ev ta σ H (.int i)) (hb : Ev tb σ H (.int j)) :
    Ev (tCB (fun xs H Q => ∃ i j, xs = [.int i, .int j] ∧ Q (.int (if j < i then j else i)) H) (tCons ta (tCons tb tNil))) σ H (.int (if j < i then j else i)) :=
  ev_cb (ea_cons ha (ea_cons hb ea_nil)) fun H1 _ _ q => ⟨i, j, rfl, q H1 (Ex.refl H1)⟩
theorem ev_negI {σ : L2.St} {H : Hp} {ta : TE} {i : Int} (ha : Ev ta σ H (.int i)) : Ev (tUn (rU fun i => .int (-i)) ta) σ H (.int (-i)) := ev_un ha ru_neg
theorem ev_I0 {σ : L2.St} {H : Hp} {ta tb : TE} {g : Int → Int → V} {i j : Int} (ha : Ev ta σ H (.int i)) (hb : Ev tb σ H (.int j)) : Ev (tOp (rI0 g) ta tb) σ H (g i j) := ev_op ha hb rv_I0
theorem ev_I {σ : L2.St} {H : Hp} {ta tb : TE} {C : Int → Int → Prop} {g : Int → Int → V} {i j : Int} (ha : Ev ta σ H (.int i)) (hb : Ev tb σ H (.int j)) (hc : C i j) : Ev (tOp (rI C g) ta tb) σ H (g i j) := ev_op ha hb (rv_I hc)
theorem ev_eq {σ : L2.St} {H : Hp} {ta tb : TE} {x y : V} (ha : Ev ta σ H x) (hb : Ev tb σ H y) (hs : scal x y = true) : Ev (tOp rEq ta tb) σ H (.bl (decide (x = y))) := ev_op ha hb (rv_eq hs)
theorem ev_ne {σ : L2.St} {H : Hp} {ta tb : TE} {x y : V} (ha : Ev ta σ H x) (hb : Ev tb σ H y) (hs : scal x y = true) : Ev (tOp rNe ta tb) σ H (.bl (!decide (x = y))) := ev_op ha hb (rv_ne hs)
theorem et_B' {σ : L2.St} {H : Hp} {te : TE} {x : V} {b : Bool} (h : Ev te σ H x) (e : x = .bl b) : EvT (tB te) σ H b := et_B (e ▸ h)
theorem dec_lt {a b : Nat} : decide ((a : Int) < (b : Int)) = decide (a < b) := by
  by_cases h : a < b
  · rw [decide_eq_true h, decide_eq_true (by omega)]
  · rw [decide_eq_false h, decide_eq_false (by omega)]
theorem int_at {ns : List Int} {i : Nat} {x : V} (hx : (ns.map V.int)[i]? = some x) : ∃ n, ns[i]? = some n ∧ i < ns.length ∧ x = V.int n := by
  rw [List.getElem?_map] at hx
  cases en : ns[i]? with
  | none => rw [en] at hx; cases hx
  | some n => rw [en] at hx; exact ⟨n, rfl, (List.getElem?_eq_some_iff.mp en).1, (Option.some.inj hx).symm⟩
theorem at_int {ns : List Int} {i : Nat} {n : Int} (h : ns[i]? = some n) : (ns.map V.int)[i]? = some (V.int n) := by rw [List.getElem?_map, h]; rfl
local macro_rules | `(tactic| walk_at "side") => `(tactic| first
  | omega | (show CMul _ _; unfold CMul; omega) | (show CDiv _ _; unfold CDiv; omega) | (show CPow _ _; unfold CPow; omega) | (show (_ : Int) < _; omega) | (show (_ : Int) ≤ _; omega) | decide)
local macro_rules | `(tactic| walk_at "ev") => `(tactic| first
  | exact ev_var rfl
  | exact ev_c
  | (refine' ev_I0 ?h1 ?h2; (case h1 => walk_at "ev"); (case h2 => walk_at "ev"))
  | (refine' ev_negI ?h1; (case h1 => walk_at "ev"))
  | (refine' ev_I ?h1 ?h2 ?hc; (case h1 => walk_at "ev"); (case h2 => walk_at "ev"); (case hc => walk_at "side"))
  | (refine' ev_eq ?h1 ?h2 ?hc; (case h1 => walk_at "ev"); (case h2 => walk_at "ev"); (case hc => rfl))
  | (refine' ev_ne ?h1 ?h2 ?hc; (case h1 => walk_at "ev"); (case h2 => walk_at "ev"); (case hc => rfl))
  | (refine' ev_max2 ?h1 ?h2; (case h1 => walk_at "ev"); (case h2 => walk_at "ev"))
  | (refine' ev_min2 ?h1 ?h2; (case h1 => walk_at "ev"); (case h2 => walk_at "ev"))
  | (refine' ev_chain ?h1 ?h2 ?h3; (case h1 => walk_at "ev"); (case h2 => walk_at "ev"); (case h3 => walk_at "ev"))
  | (refine' ev_isN ?h1; (case h1 => walk_at "ev"))
  | (refine' ev_notN ?h1; (case h1 => walk_at "ev"))
  | (refine' ev_isiI ?h1; (case h1 => walk_at "ev"))
  | (refine' ev_isiB ?h1; (case h1 => walk_at "ev"))
  | (refine' ev_isiBB ?h1; (case h1 => walk_at "ev"))
  | (refine' ev_andV ?h1 (fun _ => ?h2); (case h1 => walk_at "ev"); (case h2 => walk_at "ev"))
  | (refine' ev_orV ?h1 (fun _ => ?h2); (case h1 => walk_at "ev"); (case h2 => walk_at "ev"))
  | (refine' ev_notV ?h1; (case h1 => walk_at "ev"))
  | walk_at "evmore")
local macro_rules | `(tactic| walk_at "et") => `(tactic| first
  | (refine' et_test ?h1; (case h1 => walk_at "ev"))
  | (refine' et_B ?h1; (case h1 => walk_at "ev"))
  | (refine' et_not ?h1; (case h1 => walk_at "et"))
  | (refine' et_and ?h1 (fun _ => ?h2); (case h1 => walk_at "et"); (case h2 => walk_at "et"))
  | (refine' et_or ?h1 (fun _ => ?h2); (case h1 => walk_at "et"); (case h2 => walk_at "et")))
local macro_rules | `(tactic| walk_at "ea") => `(tactic| first
  | exact ea_nil
  | (refine' ea_cons ?h1 ?h2; (case h1 => walk_at "ev"); (case h2 => walk_at "ea")))
local macro_rules | `(tactic| walk_at "when") => `(tactic| (refine' q_when ?h ?h1 ?h2; (case h => walk_at "et")))
local macro_rules | `(tactic| walk_at "whenS") => `(tactic| (refine' s_when ?h ?h1 ?h2; (case h => walk_at "et")))
local macro_rules | `(tactic| walk_at "if") => `(tactic| (refine' q_if ?h ?h1 ?h2; (case h => walk_at "et")))
local macro_rules | `(tactic| walk_at "ifS") => `(tactic| (refine' s_if ?h ?h1 ?h2; (case h => walk_at "et")))
local macro_rules | `(tactic| walk_at "ret") => `(tactic| (refine' s_ret ?h ?h1; (case h => walk_at "ev")))
local macro_rules | `(tactic| walk_at "asg") => `(tactic| (refine' q_asg ?h ?h1; (case h => walk_at "ev")))
local macro_rules | `(tactic| walk_at "asgS") => `(tactic| (refine' s_asg ?h ?h1; (case h => walk_at "ev")))

/-! ### lists, existing or new -/
def EvR (te : TE) (σ : L2.St) (H : Hp) (xs : List V) : Prop := ∀ H1, Ex H H1 → ∀ Q : VK, (∀ p H2, Ex H1 H2 → H2 p = some (.lst xs) → Q (.ref p) H2) → te σ H1 Q
def EvS (K : PySem.W.Frag) (te : TE) (σ : L2.St) (H : Hp) (xs : List V) : Prop := ∀ H1, Ex H H1 → ∀ Q : VK, (∀ p H2, Ex H1 H2 → SqL K H2 p xs → Q (.ref p) H2) → te σ H1 Q
section
variable {K : PySem.W.Frag} {σ : L2.St} {H H' : Hp} {ta tb te : TE} {xs ys : List V} {a : Addr}
theorem EvL.r (h : EvL te σ H xs) : EvR te σ H xs := fun H1 e Q q => h H1 e Q fun p H2 _ e2 h2 => q p H2 e2 h2
theorem Ev.r (h : Ev te σ H (.ref a)) (hx : H a = some (.lst xs)) : EvR te σ H xs := fun H1 e Q q => h H1 e Q fun H2 e2 => q a H2 e2 (e2 _ _ (e _ _ hx))
theorem EvR.s (h : EvR te σ H xs) : EvS K te σ H xs := fun H1 e Q q => h H1 e Q fun p H2 e2 h2 => q p H2 e2 (sq_of h2)
theorem Ev.s (h : Ev te σ H (.ref a)) (hx : SqL K H a xs) : EvS K te σ H xs := fun H1 e Q q => h H1 e Q fun H2 e2 => q a H2 e2 (ex_l e2 (ex_l e hx))
theorem EvR.mono (e : Ex H H') (h : EvR te σ H xs) : EvR te σ H' xs := fun H1 a Q q => h H1 (e.trans a) Q q
theorem EvS.mono (e : Ex H H') (h : EvS K te σ H xs) : EvS K te σ H' xs := fun H1 a Q q => h H1 (e.trans a) Q q
theorem EvL.is (h : EvL te σ H xs) (e : xs = ys) : EvL te σ H ys := e ▸ h
theorem EvR.is (h : EvR te σ H xs) (e : xs = ys) : EvR te σ H ys := e ▸ h
theorem el_cat (ha : EvR ta σ H xs) (hb : EvR tb σ H ys) (hl : xs.length + ys.length ≤ 100000) : EvL (tOp rCat ta tb) σ H (xs ++ ys) := fun H1 e Q q =>
  ha H1 e _ fun p H2 e2 h2 => hb H2 (e.trans e2) _ fun r H3 e3 h3 => ⟨p, r, xs, ys, rfl, rfl, e3 _ _ h2, h3, sz_of hl, fun l hl => q l _ (fresh_back (e2.trans e3) hl) ((e2.trans e3).trans (Ex.new hl)) upd_same⟩
theorem el_rep {k : Int} (ha : EvR ta σ H xs) (hb : Ev tb σ H (.int k)) (hk : -(2 ^ 63) ≤ k ∧ k < 2 ^ 63) (hl : xs.length * k.toNat ≤ 100000) : EvL (tOp rRep ta tb) σ H (List.replicate k.toNat xs).flatten := fun H1 e Q q =>
  ha H1 e _ fun p H2 e2 h2 => hb H2 (e.trans e2) _ fun H3 e3 => ⟨p, k, xs, rfl, rfl, e3 _ _ h2, hk.1, hk.2, sz_of hl, fun l hl => q l _ (fresh_back (e2.trans e3) hl) ((e2.trans e3).trans (Ex.new hl)) upd_same⟩
theorem rep_one {x : V} (n : Nat) : (List.replicate n [x]).flatten = List.replicate n x := by
  induction n with
  | zero => rfl
  | succ n ih => rw [List.replicate_succ, List.replicate_succ, List.flatten_cons, ih]; rfl
theorem el_of {te : TE} (h : EvS K te σ H xs) : EvL (tCB (rListS K) (tCons te tNil)) σ H xs := fun H1 e Q q =>
  h H1 e _ fun p H2 e2 h2 => ⟨p, xs, rfl, .inl h2, fun l hl => q l _ (fresh_back e2 hl) (e2.trans (Ex.new hl)) upd_same⟩
theorem ev_lenS (h : EvS K te σ H xs) : Ev (tCB (rLenS K) (tCons te tNil)) σ H (.int (xs.length : Int)) := fun H1 e Q q =>
  h H1 e _ fun p H2 e2 h2 => ⟨p, xs, rfl, .inl h2, q H2 e2⟩
theorem ev_sum {ns : List Int} (h : EvS K te σ H (ns.map V.int)) : Ev (tCB (rSum K) (tCons te tNil)) σ H (.int ns.sum) := fun H1 e Q q =>
  h H1 e _ fun p H2 e2 h2 => ⟨p, ns, rfl, h2, q H2 e2⟩
theorem dp_ints {K : PySem.W.Frag} {H : Hp} : ∀ ns : List Int, DpAll K H (ns.map V.int) (ns.map PyData.int)
  | [] => .nil
  | n :: r => .cons (.int n) (dp_ints r)
theorem eqv_ints : ∀ ns ms : List Int, PyData.eqvAll (ns.map PyData.int) (ms.map PyData.int) = decide (ns = ms)
  | [], [] => by simp [PyData.eqvAll]
  | [], _ :: _ => by simp [PyData.eqvAll]
  | _ :: _, [] => by simp [PyData.eqvAll]
  | n :: r, m :: t => by
    show (PyData.eqv (.int n) (.int m) && PyData.eqvAll (r.map PyData.int) (t.map PyData.int)) = _
    rw [eqv_ints r t]
    show ((n == m) && decide (r = t)) = _
    by_cases h1 : n = m <;> by_cases h2 : r = t <;> simp [h1, h2]
theorem canLay_ints : ∀ ns : List Int, PyData.canLayAll0 (ns.map PyData.int) = true
  | [] => by simp [PyData.canLayAll0]
  | n :: r => by
    show PyData.canLayAll0 (PyData.int n :: r.map PyData.int) = true
    rw [PyData.canLayAll0, canLay_ints r]
    simp [PyData.canLay0]
theorem depth_ints : ∀ ns : List Int, PyData.depthAll (ns.map PyData.int) ≤ 1
  | [] => by simp [PyData.depthAll]
  | n :: r => by
    show PyData.depthAll (PyData.int n :: r.map PyData.int) ≤ 1
    have := depth_ints r
    simp only [PyData.depthAll, PyData.depth]
    omega
theorem shaped_ints (ns : List Int) : SeqAt.shaped (.list (ns.map PyData.int)) = true := by
  unfold SeqAt.shaped
  have h1 := canLay_ints ns
  have h2 := depth_ints ns
  have h3 : PyData.depth (.list (ns.map PyData.int)) ≤ 64 := by
    rw [PyData.depth]
    omega
  rw [decide_eq_true h3, Bool.and_true]
  simpa only [PyData.canLay0] using h1
theorem ev_eqI {ns ms : List Int} (ha : EvS K ta σ H (ns.map V.int)) (hb : EvS K tb σ H (ms.map V.int)) : Ev (tOp (rEqD K) ta tb) σ H (.bl (decide (ns = ms))) := fun H1 e Q q =>
  ha H1 e _ fun p H2 e2 h2 => hb H2 (e.trans e2) _ fun r H3 e3 h3 => ⟨.list (ns.map PyData.int), .list (ms.map PyData.int), .lst (ex_l e3 h2) (dp_ints ns), .lst h3 (dp_ints ms), shaped_ints ns, shaped_ints ms, by
    show Q (.bl (PyData.eqvAll (ns.map PyData.int) (ms.map PyData.int))) H3
    rw [eqv_ints]
    exact q H3 (e2.trans e3)⟩
theorem ev_neI {ns ms : List Int} (ha : EvS K ta σ H (ns.map V.int)) (hb : EvS K tb σ H (ms.map V.int)) : Ev (tOp (rNeD K) ta tb) σ H (.bl (!decide (ns = ms))) := fun H1 e Q q =>
  ha H1 e _ fun p H2 e2 h2 => hb H2 (e.trans e2) _ fun r H3 e3 h3 => ⟨.list (ns.map PyData.int), .list (ms.map PyData.int), .lst (ex_l e3 h2) (dp_ints ns), .lst h3 (dp_ints ms), shaped_ints ns, shaped_ints ms, by
    show Q (.bl (!PyData.eqvAll (ns.map PyData.int) (ms.map PyData.int))) H3
    rw [eqv_ints]
    exact q H3 (e2.trans e3)⟩
theorem ev_ixS {i : Nat} {n : Int} {tl ti : TE} {v : V} (h : EvS K tl σ H xs) (hi : Ev ti σ H (.int n)) (ha : atI xs n = some v) : Ev (tOp (rIxL K) tl ti) σ H v := fun H1 e Q q =>
  h H1 e _ fun p H2 e2 h2 => hi H2 (e.trans e2) _ fun H3 e3 => ⟨p, xs, n, v, rfl, rfl, ex_l e3 h2, ha, q H3 (e2.trans e3)⟩
theorem el_slS {tl th : TO} {lo hi : Option Int} (h : EvS K te σ H xs) (h1 : EvO tl σ H lo) (h2 : EvO th σ H hi) : EvL (tSl (rSlL K) te tl th) σ H (cutV xs lo hi) := fun H1 e _ q =>
  h H1 e _ fun a H2 e2 hs => h1 H2 (e.trans e2) _ fun H3 e3 => h2 H3 ((e.trans e2).trans e3) _ fun H4 e4 =>
    ⟨a, xs, rfl, ex_l (e3.trans e4) hs, fun p hp => q p _ (fresh_back ((e2.trans e3).trans e4) hp) (((e2.trans e3).trans e4).trans (Ex.new hp)) upd_same⟩
theorem ev_at {n : Int} {tl ti : TE} {v : V} (h : EvS K tl σ H xs) (hi : Ev ti σ H (.int n)) (ha : atI xs n = some v) : Ev (tOp (rIxL K) tl ti) σ H v := ev_ixS (i := 0) h hi ha
theorem cut_to (xs : List V) (i : Nat) : cutV xs none (some (i : Int)) = xs.take i := by
  unfold cutV
  rw [HT.sIx_none, HT.sIx_nat, List.drop_zero, Nat.sub_zero]
  by_cases h : i ≤ xs.length
  · rw [Nat.min_eq_left h]
  · rw [Nat.min_eq_right (by omega), List.take_of_length_le (Nat.le_refl _), List.take_of_length_le (by omega)]
theorem cut_from (xs : List V) (i : Nat) : cutV xs (some (i : Int)) none = xs.drop i := by
  unfold cutV
  rw [HT.sIx_none, HT.sIx_nat]
  by_cases h : i ≤ xs.length
  · rw [Nat.min_eq_left h, List.take_of_length_le (by rw [List.length_drop]; omega)]
  · rw [Nat.min_eq_right (by omega), List.drop_of_length_le (Nat.le_refl _), List.drop_of_length_le (show xs.length ≤ i by omega), List.take_nil]
theorem cut_mid (xs : List V) (i j : Nat) : cutV xs (some (i : Int)) (some (j : Int)) = (xs.drop i).take (j - i) := by
  unfold cutV
  rw [HT.sIx_nat, HT.sIx_nat]
  by_cases h : i ≤ xs.length
  · rw [Nat.min_eq_left h]
    by_cases h2 : j ≤ xs.length
    · rw [Nat.min_eq_left h2]
    · rw [Nat.min_eq_right (by omega), List.take_of_length_le (by rw [List.length_drop]; omega), List.take_of_length_le (by rw [List.length_drop]; omega)]
  · rw [Nat.min_eq_right (by omega : xs.length ≤ i), List.drop_of_length_le (Nat.le_refl _), List.drop_of_length_le (show xs.length ≤ i by omega)]
    simp
theorem el_to {th : TE} {ns : List Int} {i : Nat} (h : EvS K te σ H (ns.map V.int)) (h2 : Ev th σ H (.int i)) : EvL (tSl (rSlL K) te tNoPart (tPart th)) σ H ((ns.take i).map V.int) :=
  EvL.is (el_slS h eo_none (eo_some h2)) (by rw [List.map_take]; exact cut_to _ i)
theorem el_from {th : TE} {ns : List Int} {i : Nat} (h : EvS K te σ H (ns.map V.int)) (h2 : Ev th σ H (.int i)) : EvL (tSl (rSlL K) te (tPart th) tNoPart) σ H ((ns.drop i).map V.int) :=
  EvL.is (el_slS h (eo_some h2) eo_none) (by rw [List.map_drop]; exact cut_from _ i)
theorem el_mid {t1 t2 : TE} {ns : List Int} {i j : Nat} (h : EvS K te σ H (ns.map V.int)) (h1 : Ev t1 σ H (.int i)) (h2 : Ev t2 σ H (.int j)) : EvL (tSl (rSlL K) te (tPart t1) (tPart t2)) σ H (((ns.drop i).take (j - i)).map V.int) :=
  EvL.is (el_slS h (eo_some h1) (eo_some h2)) (by rw [List.map_take, List.map_drop]; exact cut_mid _ i j)
section
variable {D : Ends} {tz : TS} {sp : Sp} {dvs vs : List V} {E : XK} {tA : TA}
/-- x = f(..), whatever f promises -/
theorem q_asgC {i : Nat} (h : EvA tA σ H vs) (k : ∀ H1, Ex H H1 → sp (vs ++ dvs) H1 (fun x H2 => tz D (σ.set i (some x)) H2) E) : tSeq (tAsg (tCall sp dvs E tA) (gName i)) tz D σ H := h H (Ex.refl H) _ fun H1 e => k H1 e
theorem s_asgC {i : Nat} (h : EvA tA σ H vs) (k : ∀ H1, Ex H H1 → sp (vs ++ dvs) H1 (fun x H2 => D.nx (σ.set i (some x)) H2) E) : tAsg (tCall sp dvs E tA) (gName i) D σ H := h H (Ex.refl H) _ fun H1 e => k H1 e
theorem q_dropC (h : EvA tA σ H vs) (k : ∀ H1, Ex H H1 → sp (vs ++ dvs) H1 (fun _ H2 => tz D σ H2) E) : tSeq (tDrop (tCall sp dvs E tA)) tz D σ H := h H (Ex.refl H) _ fun H1 e => k H1 e
theorem s_retC (h : EvA tA σ H vs) (k : ∀ H1, Ex H H1 → sp (vs ++ dvs) H1 D.rt E) : tRet (tCall sp dvs E tA) D σ H := h H (Ex.refl H) _ fun H1 e => k H1 e
end
theorem gl_get {ns : List Int} {i : Nat} (h : i < ns.length) : ns[i]? = some (ns.getD i 0) := by
  rw [List.getD_eq_getElem?_getD, List.getElem?_eq_getElem h]
  rfl
theorem q_asgRaw {te : TE} {i : Nat} {D : Ends} {tz : TS} (P : V → Hp → Prop) (h : ∀ Q : VK, (∀ x H2, P x H2 → Q x H2) → te σ H Q) (k : ∀ x H2, P x H2 → tz D (σ.set i (some x)) H2) : tSeq (tAsg te (gName i)) tz D σ H := h _ k
/-- a, b = a pair -/
theorem q_asgT {te : TE} {i j : Nat} {D : Ends} {tz : TS} (P : V → V → Hp → Prop) (h : ∀ Q : VK, (∀ t x y H2, P x y H2 → SqT K H2 t [x, y] → Q (.ref t) H2) → te σ H Q) (k : ∀ x y H2, P x y H2 → tz D ((σ.set i (some x)).set j (some y)) H2) :
    tSeq (tAsg te (gTup K 2 (gCons (gName i) (gCons (gName j) gNil)))) tz D σ H := h _ fun t x y H2 hP hT => ⟨t, [x, y], rfl, hT, rfl, x, [y], rfl, y, [], rfl, rfl, k x y H2 hP⟩
/-- the law's cell -/
def cellI (ns : List Int) (k : Int) : Int := ns.getD k.toNat 0
theorem cellI_in {ns : List Int} {k : Int} (h0 : 0 ≤ k) (h : k < ns.length) : ns[k.toNat]? = some (cellI ns k) := by
  unfold cellI
  rw [List.getD_eq_getElem?_getD, List.getElem?_eq_getElem (by omega)]
  rfl
theorem cellI_out {ns : List Int} {k : Int} (h : ¬ k < ns.length) : cellI ns k = 0 := by
  unfold cellI
  rw [List.getD_eq_getElem?_getD, List.getElem?_eq_none (by omega)]
  rfl
end
theorem Ex.get {H H' : Hp} {a : Addr} {o : HO} (e : Ex H H') (h : H a = some o) : H' a = some o := e a o h
local macro_rules | `(tactic| walk_at "hp") => `(tactic| first
  | assumption
  | exact upd_same
  | (refine' Ex.get (by assumption) ?h1; (case h1 => walk_at "hp")))
local macro_rules | `(tactic| walk_at "ex") => `(tactic| first
  | assumption
  | exact Ex.refl _
  | (refine' Ex.trans ?h1 (by assumption); (case h1 => walk_at "ex")))
local macro_rules | `(tactic| walk_at "sq") => `(tactic| first
  | assumption
  | (refine' sq_of ?h1; (case h1 => walk_at "hp"))
  | (refine' ex_l (by assumption) ?h1; (case h1 => walk_at "sq")))
local macro_rules | `(tactic| walk_at "evs") => `(tactic| first
  | (refine' Ev.s ?h1 ?h2; (case h1 => exact ev_var rfl); (case h2 => walk_at "sq"))
  | (refine' EvR.s ?h1; (case h1 => walk_at "evr")))
local macro_rules | `(tactic| walk_at "evr") => `(tactic| first
  | (refine' Ev.r ?h1 ?h2; (case h1 => exact ev_var rfl); (case h2 => walk_at "hp"))
  | (refine' EvL.r ?h1; (case h1 => walk_at "el")))
local macro_rules | `(tactic| walk_at "eo") => `(tactic| first
  | exact eo_none
  | (refine' eo_some ?h1; (case h1 => walk_at "ev")))
local macro_rules | `(tactic| walk_at "el") => `(tactic| first
  | (refine' el_lst ?h1 ?h2; (case h1 => walk_at "ea"); (case h2 => exact Nat.le_of_ble_eq_true rfl))
  | (refine' el_cat ?h1 ?h2 ?h3; (case h1 => walk_at "evr"); (case h2 => walk_at "evr"); (case h3 => walk_at "len"))
  | (refine' el_rep ?h1 ?h2 ?h3 ?h4; (case h1 => walk_at "evr"); (case h2 => walk_at "ev"); (case h3 => walk_at "side2"); (case h4 => walk_at "len"))
  | (refine' el_of ?h1; (case h1 => walk_at "evs"))
  | (refine' el_to ?h1 ?h2; (case h1 => walk_at "evs"); (case h2 => walk_at "ev"))
  | (refine' el_from ?h1 ?h2; (case h1 => walk_at "evs"); (case h2 => walk_at "ev"))
  | (refine' el_mid ?h1 ?h2 ?h3; (case h1 => walk_at "evs"); (case h2 => walk_at "ev"); (case h3 => walk_at "ev"))
  | (refine' el_slS ?h1 ?h2 ?h3; (case h1 => walk_at "evs"); (case h2 => walk_at "eo"); (case h3 => walk_at "eo"))
  | walk_at "elmore")
local macro_rules | `(tactic| walk_at "evmore") => `(tactic| first
  | (refine' ev_lenS ?h1; (case h1 => walk_at "evs"))
  | (refine' ev_sum ?h1; (case h1 => walk_at "evs"))
  | (refine' ev_eqI ?h1 ?h2; (case h1 => walk_at "evs"); (case h2 => walk_at "evs"))
  | (refine' ev_neI ?h1 ?h2; (case h1 => walk_at "evs"); (case h2 => walk_at "evs"))
  | (refine' ev_at ?h1 ?h2 ?h3; (case h1 => walk_at "evs"); (case h2 => walk_at "ev"); (case h3 => walk_at "at"))
  | (refine' ev_isiL ?h1 ?h2; (case h1 => walk_at "ev"); (case h2 => walk_at "hp"))
  | walk_at "evown")
local macro_rules | `(tactic| walk_at "at") => `(tactic| first
  | exact at_of rfl (at_int (by assumption))
  | exact at_of rfl (by assumption))
local macro_rules | `(tactic| walk_at "asgL") => `(tactic| (refine' q_asgL ?h ?h1; (case h => walk_at "el")))
local macro_rules | `(tactic| walk_at "retL") => `(tactic| (refine' s_retL ?h ?h1; (case h => walk_at "el")))

/-- a walk's reading said in other words -/
theorem PI.k {X : Cx} {tg e : Expr} {wi wi' : TI} (h : PI X tg e wi) (q : wi = wi') : PI X tg e wi' := q ▸ h
/-! ### comprehensions whose items are said in a list -/
theorem et_yes {σ : L2.St} {H : Hp} : EvT tYes σ H true := fun H1 _ _ q => q H1 (Ex.refl H1)
section
variable {K : PySem.W.Frag} {σ : L2.St} {H : Hp} {t1 t2 te : TE} {xs ys zs : List V} {vs : List Nat}
theorem take_snoc {zs : List V} {i : Nat} {z : V} (h : zs[i]? = some z) : zs.take (i + 1) = zs.take i ++ [z] := by
  rw [List.take_add_one, h]
  rfl
theorem el_lcZ {j1 j2 : Nat} (zs : List V) (h1 : EvS K t1 σ H xs) (h2 : EvS K t2 σ H ys) (hz : zs.length = min xs.length ys.length) (hb : zs.length ≤ 50000)
    (hw : ∀ x y, wipe (((wipe σ vs).set j1 (some x)).set j2 (some y)) vs = wipe σ vs)
    (he : ∀ (i : Nat) (x y : V) H1, Ex H H1 → xs[i]? = some x → ys[i]? = some y → ∃ z, zs[i]? = some z ∧ Ev te (((wipe σ vs).set j1 (some x)).set j2 (some y)) H1 z) :
    EvL (tLc (iZip K (tCons t1 (tCons t2 tNil))) (gTup K 2 (gCons (gName j1) (gCons (gName j2) gNil))) tYes te vs) σ H zs := fun H0 e Q q =>
  h1 H0 e _ fun p H1 e1 hp => h2 H1 (e.trans e1) _ fun r H2 e2 hr => ⟨p, r, xs, ys, rfl, ex_l e2 hp, hr, fun D hD =>
    ⟨fun i m H' => m = zs.length - i ∧ i ≤ zs.length ∧ Ex H2 H' ∧ H' D = some (.lst (zs.take i)), ⟨zs.length, rfl, Nat.zero_le _, Ex.new hD, upd_same⟩, by
      rintro i m H' ⟨rfl, hi, ex, hd⟩
      have qx : SqL K H' p xs := ex_l (e2.trans ex) hp
      have qy : SqL K H' r ys := ex_l ex hr
      by_cases hlt : i < zs.length
      · have hx : xs[i]? = some xs[i] := List.getElem?_eq_getElem (by omega)
        have hy : ys[i]? = some ys[i] := List.getElem?_eq_getElem (by omega)
        refine .inr ⟨⟨xs, ys, _, _, qx, qy, hx, hy⟩, fun H3 => i + 1 ≤ zs.length ∧ Ex H2 H3 ∧ H3 D = some (.lst (zs.take (i + 1))), fun H3 h3 => ⟨zs.length - (i + 1), by omega, rfl, h3⟩, fun v H3 hv => ?_⟩
        obtain ⟨T, x, y, rfl, hT, rfl, f1, f2⟩ := hv
        have ex3 : Ex H' (upd H' T (.tup [x, y])) := Ex.new hT
        obtain ⟨z, hz1, hz2⟩ := he i x y (upd H' T (.tup [x, y])) ((((e.trans e1).trans e2).trans ex).trans ex3) (f1 _ qx) (f2 _ qy)
        refine ⟨T, [x, y], rfl, st_of upd_same, rfl, x, [y], rfl, y, [], rfl, rfl, hw x y, ?_⟩
        refine hz2 _ (Ex.refl _) _ fun H4 e4 => ⟨zs.take i, e4 _ _ (ex3 _ _ hd), sz_lt (by rw [List.length_take]; omega), hlt, ?_, ?_⟩
        · exact Ex.mut ((ex.trans ex3).trans e4) hD
        · rw [upd_same, take_snoc hz1]
      · have ei : i = zs.length := by omega
        refine .inl ⟨⟨xs, ys, qx, qy, by omega⟩, ?_⟩
        rw [ei, List.take_length] at hd
        exact q D H' (fresh_back (e1.trans e2) hD) ((e1.trans e2).trans ex) hd⟩⟩
/-- over a list, each item kept -/
theorem el_lcS {j : Nat} (zs : List V) (h1 : EvS K t1 σ H xs) (hz : zs.length = xs.length) (hb : zs.length ≤ 50000) (hw : ∀ x, wipe ((wipe σ vs).set j (some x)) vs = wipe σ vs)
    (he : ∀ (i : Nat) (x : V) H1, Ex H H1 → xs[i]? = some x → ∃ z, zs[i]? = some z ∧ Ev te ((wipe σ vs).set j (some x)) H1 z) :
    EvL (tLc (iList K t1) (gName j) tYes te vs) σ H zs := fun H0 e Q q =>
  h1 H0 e _ fun p H1 e1 hp => ⟨p, rfl, ⟨xs, hp⟩, fun D hD => lc_list (xs := xs) (fun i H' => Ex H1 H' ∧ H' D = some (.lst (zs.take i))) ⟨Ex.new hD, upd_same⟩ (fun i H' _ h => ex_l h.1 hp)
    (fun i x H' hi h => ⟨hw x, by
      obtain ⟨z, hz1, hz2⟩ := he i x H' ((e.trans e1).trans h.1) hi
      have hl : i < xs.length := (List.getElem?_eq_some_iff.mp hi).1
      refine hz2 H' (Ex.refl _) _ fun H4 e4 => ⟨zs.take i, e4 _ _ h.2, sz_lt (by rw [List.length_take]; omega), Ex.mut (h.1.trans e4) hD, ?_⟩
      rw [upd_same, take_snoc hz1]⟩)
    (fun H' h => q D H' (fresh_back e1 hD) (e1.trans h.1) (by rw [h.2, ← hz, List.take_length]))⟩
/-- over range(n) -/
theorem el_lcR {ta : TA} {n : Int} {j : Nat} (zs : List V) (h1 : EvA ta σ H [.int n]) (hn : -100000 ≤ n) (hz : zs.length = n.toNat) (hb : zs.length ≤ 50000) (hw : ∀ x, wipe ((wipe σ vs).set j (some x)) vs = wipe σ vs)
    (he : ∀ (i : Nat) H1, Ex H H1 → i < zs.length → ∃ z, zs[i]? = some z ∧ Ev te ((wipe σ vs).set j (some (.int (i : Int)))) H1 z) :
    EvL (tLc (iRng1 ta) (gName j) tYes te vs) σ H zs := fun H0 e Q q =>
  h1 H0 e _ fun H1 e1 => ⟨n, rfl, by omega, by omega, fun D hD => lc_range (lo := 0) (n := n.toNat) (fun i H' => Ex H1 H' ∧ H' D = some (.lst (zs.take i))) ⟨Ex.new hD, upd_same⟩
    (fun i H' hi h => by
      have e0 : (0 : Int) + (i : Int) = (i : Int) := Int.zero_add _
      rw [e0]
      obtain ⟨z, hz1, hz2⟩ := he i H' ((e.trans e1).trans h.1) (by omega)
      refine ⟨hw _, hz2 H' (Ex.refl _) _ fun H4 e4 => ⟨zs.take i, e4 _ _ h.2, sz_lt (by rw [List.length_take]; omega), Ex.mut (h.1.trans e4) hD, ?_⟩⟩
      rw [upd_same, take_snoc hz1])
    (fun H' h => q D H' (fresh_back e1 hD) (e1.trans h.1) (by rw [h.2, show n.toNat = zs.length by omega, List.take_length]))⟩
/-- y = [.. for x in f(..)], whatever f promises -/
theorem s_asgLC {sp : Sp} {dvs args : List V} {E : XK} {ta : TA} {g : TG} {tt : TT} {D : Ends} {i : Nat} (h : EvA ta σ H args) (k : ∀ H1, Ex H H1 → sp (args ++ dvs) H1 (fun x H2 => tAsg (tLc (iList K (tC x)) g tt te vs) (gName i) D σ H2) E) :
    tAsg (tLc (iList K (tCall sp dvs E ta)) g tt te vs) (gName i) D σ H := h H (Ex.refl H) _ fun H1 e => k H1 e
theorem q_asgLC {sp : Sp} {dvs args : List V} {E : XK} {ta : TA} {g : TG} {tt : TT} {D : Ends} {i : Nat} {tz : TS} (h : EvA ta σ H args) (k : ∀ H1, Ex H H1 → sp (args ++ dvs) H1 (fun x H2 => tSeq (tAsg (tLc (iList K (tC x)) g tt te vs) (gName i)) tz D σ H2) E) :
    tSeq (tAsg (tLc (iList K (tCall sp dvs E ta)) g tt te vs) (gName i)) tz D σ H := h H (Ex.refl H) _ fun H1 e => k H1 e
end

/-! ### data at any depth -/
mutual
theorem dp_ex {K : PySem.W.Frag} {H H' : Hp} (e : Ex H H') : ∀ (d : PyData) (v : V), Dp K H v d → Dp K H' v d
  | .none, _, h => by cases h; exact .non
  | .bool b, _, h => by cases h; exact .bl b
  | .int i, _, h => by cases h; exact .int i
  | .str x, _, h => by cases h; exact .str x
  | .list ds, _, h => by cases h with | lst hs ha => exact .lst (ex_l e hs) (dpa_ex e ds _ ha)
  | .tuple ds, _, h => by cases h with | tup hs ha => exact .tup (ex_t e hs) (dpa_ex e ds _ ha)
  | .dict _, _, h => by cases h
theorem dpa_ex {K : PySem.W.Frag} {H H' : Hp} (e : Ex H H') : ∀ (ds : List PyData) (vs : List V), DpAll K H vs ds → DpAll K H' vs ds
  | [], _, h => by cases h; exact .nil
  | d :: ds, _, h => by cases h with | cons h1 h2 => exact .cons (dp_ex e d _ h1) (dpa_ex e ds _ h2)
end
def EvD (K : PySem.W.Frag) (te : TE) (σ : L2.St) (H : Hp) (d : PyData) : Prop := ∀ H1, Ex H H1 → ∀ Q : VK, (∀ v H2, Ex H1 H2 → Dp K H2 v d → Q v H2) → te σ H1 Q
section
variable {K : PySem.W.Frag} {σ : L2.St} {H : Hp} {te ta tb t1 t2 t3 : TE} {d d1 d2 d3 : PyData} {v : V}
theorem EvD.of (h : Ev te σ H v) (hd : Dp K H v d) : EvD K te σ H d := fun H1 e Q q => h H1 e _ fun H2 e2 => q v H2 e2 (dp_ex (e.trans e2) d v hd)
theorem EvS.toD {ns : List Int} (h : EvS K te σ H (ns.map V.int)) : EvD K te σ H (.list (ns.map .int)) := fun H1 e Q q => h H1 e _ fun p H2 e2 hp => q (.ref p) H2 e2 (.lst hp (dp_ints ns))
theorem ed_tup2 (h1 : EvD K t1 σ H d1) (h2 : EvD K t2 σ H d2) : EvD K (tTup (tCons t1 (tCons t2 tNil))) σ H (.tuple [d1, d2]) := fun H1 e Q q => h1 H1 e _ fun v H2 e2 hv => h2 H2 (e.trans e2) _ fun u H3 e3 hu =>
  ⟨sz_of (show 2 ≤ 100000 by decide), fun p hp => q (.ref p) _ ((e2.trans e3).trans (Ex.new hp)) (.tup (st_of upd_same) (.cons (dp_ex (e3.trans (Ex.new hp)) _ _ hv) (.cons (dp_ex (Ex.new hp) _ _ hu) .nil)))⟩
theorem ev_eqDD (h1 : EvD K ta σ H d) (h2 : EvD K tb σ H d) (hs : SeqAt.shaped d = true) : Ev (tOp (rEqD K) ta tb) σ H (.bl true) := fun H1 e Q q => h1 H1 e _ fun v H2 e2 hv => h2 H2 (e.trans e2) _ fun u H3 e3 hu =>
  ⟨d, d, dp_ex e3 d v hv, hu, hs, hs, by rw [SeqAt.eqv_refl d (SeqAt.canLay_of_shaped hs)]; exact q H3 (e2.trans e3)⟩
theorem ev_neDD (h1 : EvD K ta σ H d) (h2 : EvD K tb σ H d) (hs : SeqAt.shaped d = true) : Ev (tOp (rNeD K) ta tb) σ H (.bl false) := fun H1 e Q q => h1 H1 e _ fun v H2 e2 hv => h2 H2 (e.trans e2) _ fun u H3 e3 hu =>
  ⟨d, d, dp_ex e3 d v hv, hu, hs, hs, by rw [SeqAt.eqv_refl d (SeqAt.canLay_of_shaped hs)]; exact q H3 (e2.trans e3)⟩
end
theorem shaped_pair (ns ms : List Int) : SeqAt.shaped (.tuple [.list (ns.map .int), .list (ms.map .int)]) = true := by
  unfold SeqAt.shaped
  have h1 := canLay_ints ns
  have h2 := depth_ints ns
  have h3 := canLay_ints ms
  have h4 := depth_ints ms
  rw [Bool.and_eq_true, decide_eq_true_iff]
  refine ⟨by simp only [PyData.canLay0, PyData.canLayAll0, h1, h3, Bool.and_self], ?_⟩
  simp only [PyData.depth, PyData.depthAll]
  omega

/-! ### calls with keywords, defaults -/
theorem kwAllN {K : PySem.W.Frag} {D : Addr} : ∀ p ∈ ([] : List (Str × V)), ∃ u, PySem.W.nsIn K D p.1 = some (some u) ∧ RelV p.2 u := fun p hp => by cases hp
theorem kwAllC {K : PySem.W.Frag} {D : Addr} {q : Str × V} {l : List (Str × V)} (h : ∃ u, PySem.W.nsIn K D q.1 = some (some u) ∧ RelV q.2 u) (hl : ∀ p ∈ l, ∃ u, PySem.W.nsIn K D p.1 = some (some u) ∧ RelV p.2 u) : ∀ p ∈ q :: l, ∃ u, PySem.W.nsIn K D p.1 = some (some u) ∧ RelV p.2 u := fun p hp => by
  rcases List.mem_cons.mp hp with rfl | hp
  · exact h
  · exact hl p hp
theorem kwAll1 {K : PySem.W.Frag} {D : Addr} {q : Str × V} (h : ∃ u, PySem.W.nsIn K D q.1 = some (some u) ∧ RelV q.2 u) : ∀ p ∈ [q], ∃ u, PySem.W.nsIn K D p.1 = some (some u) ∧ RelV p.2 u := fun p hp => by
  rcases List.mem_cons.mp hp with rfl | hp
  · exact h
  · cases hp
section
variable {K : PySem.W.Frag} {x qual : Str} {params : Arguments} {body : List Stmt} {scope : Scope} {dvs : List V} {kws : List (Str × V)} {f : Addr} {fd : FuncData} {ps : List Str}
/-- f(a, .., k = v, ..), nothing left to a default, no defaults of place -/
theorem fund_kb0 {g : List Value → List Value → List Value} {gV : List V → List V → List V} (F : FunD K x qual params body scope [] kws f fd) (n : Nat) (ks : List Str)
    (hrel : ∀ {vs : List V} {us : List Value} {zs : List V} {ws : List Value}, Vals vs us → Vals zs ws → Vals (gV vs zs) (g us ws))
    (h : ∀ (kV doc pm : Value) (an : Option Addr) (cdv ct : Value) (us ws : List Value), us.length = n → ws.length = ks.length → bindArgs (PySem.W.fnOf x qual params body scope .none kV doc pm an cdv ct) ⟨us, ks.zip ws⟩ = pure (ps.zip (g us ws))) :
    KBn K fd ps n ks g gV := by
  obtain ⟨oc, od, dV, kV, doc, pm, an, cdv, ct, osl, rfl, lk, hcd, hD, hK⟩ := F.ex
  rcases hD with ⟨_, rfl⟩ | ⟨e, _⟩
  · exact ⟨fun s us ws X l1 l2 => .of_eq (h kV doc pm an cdv ct us ws l1 l2), hrel⟩
  · exact absurd rfl e
/-- the same of a def with defaults of place -/
theorem fund_kb1 {g : List Value → List Value → List Value} {gV : List V → List V → List V} (F : FunD K x qual params body scope dvs kws f fd) (hd : dvs ≠ []) (n : Nat) (ks : List Str)
    (hrel : ∀ {vs : List V} {us : List Value} {zs : List V} {ws : List Value}, Vals vs us → Vals zs ws → Vals (gV vs zs) (g us ws))
    (h : ∀ (T : Addr) (kV doc pm : Value) (an : Option Addr) (cdv ct : Value) (us its ws : List Value), us.length = n → its.length = dvs.length → ws.length = ks.length →
      ∃ k, bindArgs (PySem.W.fnOf x qual params body scope (.ref T) kV doc pm an cdv ct) ⟨us, ks.zip ws⟩ = seqItems? (.ref T) >>= k ∧ k (some its.toArray) = pure (ps.zip (g us ws))) :
    KBn K fd ps n ks g gV := by
  obtain ⟨oc, od, dV, kV, doc, pm, an, cdv, ct, osl, rfl, lk, hcd, hD, hK⟩ := F.ex
  rcases hD with ⟨e, _⟩ | ⟨_, T, o, its, m, rfl, lT, oT, rT⟩
  · exact absurd e hd
  · refine ⟨fun s us ws X l1 l2 => ?_, hrel⟩
    obtain ⟨k, e1, e2⟩ := h T kV doc pm an cdv ct us its ws l1 rT.length.symm l2
    refine BindsTo.of_looks fun M => ?_
    rw [e1]
    exact looks_items X lT oT (.of_pure e2)
end

theorem foldl_max : ∀ (ns : List Int) (d : Int), (ns.foldl max d = d ∨ ns.foldl max d ∈ ns) ∧ d ≤ ns.foldl max d ∧ ∀ n ∈ ns, n ≤ ns.foldl max d
  | [], d => ⟨.inl rfl, Int.le_refl _, fun n hn => by cases hn⟩
  | x :: r, d => by
    obtain ⟨h1, h2, h3⟩ := foldl_max r (max d x)
    show (r.foldl max (max d x) = d ∨ r.foldl max (max d x) ∈ x :: r) ∧ d ≤ r.foldl max (max d x) ∧ ∀ n ∈ x :: r, n ≤ r.foldl max (max d x)
    refine ⟨?_, by omega, fun n hn => ?_⟩
    · rcases h1 with h | h
      · rw [h]
        by_cases hd : d ≤ x
        · exact .inr (by rw [Int.max_eq_right hd]; exact List.mem_cons_self ..)
        · exact .inl (by omega)
      · exact .inr (List.mem_cons_of_mem _ h)
    · rcases List.mem_cons.mp hn with rfl | hn
      · omega
      · exact h3 n hn

/-! ### min, max of a list of numbers -/
theorem foldl_min : ∀ (ns : List Int) (d : Int), (ns.foldl min d = d ∨ ns.foldl min d ∈ ns) ∧ ns.foldl min d ≤ d ∧ ∀ n ∈ ns, ns.foldl min d ≤ n
  | [], d => ⟨.inl rfl, Int.le_refl _, fun n hn => by cases hn⟩
  | x :: r, d => by
    obtain ⟨h1, h2, h3⟩ := foldl_min r (min d x)
    show (r.foldl min (min d x) = d ∨ r.foldl min (min d x) ∈ x :: r) ∧ r.foldl min (min d x) ≤ d ∧ ∀ n ∈ x :: r, r.foldl min (min d x) ≤ n
    refine ⟨?_, by omega, fun n hn => ?_⟩
    · rcases h1 with h | h
      · rw [h]
        by_cases hd : d ≤ x
        · exact .inl (Int.min_eq_left hd)
        · exact .inr (by rw [Int.min_eq_right (by omega)]; exact List.mem_cons_self ..)
      · exact .inr (List.mem_cons_of_mem _ h)
    · rcases List.mem_cons.mp hn with rfl | hn
      · omega
      · exact h3 n hn
def minL (ns : List Int) : Int := ns.tail.foldl min (ns.headD 0)
def maxL (ns : List Int) : Int := ns.tail.foldl max (ns.headD 0)
theorem minL_is {ns : List Int} (h : 0 < ns.length) : minL ns ∈ ns ∧ ∀ y ∈ ns, minL ns ≤ y := by
  cases ns with
  | nil => exact absurd h (by decide)
  | cons x r =>
    obtain ⟨h1, h2, h3⟩ := foldl_min r x
    show r.foldl min x ∈ x :: r ∧ ∀ y ∈ x :: r, r.foldl min x ≤ y
    refine ⟨?_, fun y hy => ?_⟩
    · rcases h1 with e | e
      · rw [e]
        exact List.mem_cons_self ..
      · exact List.mem_cons_of_mem _ e
    · rcases List.mem_cons.mp hy with rfl | hy
      · exact h2
      · exact h3 y hy
theorem maxL_is {ns : List Int} (h : 0 < ns.length) : maxL ns ∈ ns ∧ ∀ y ∈ ns, y ≤ maxL ns := by
  cases ns with
  | nil => exact absurd h (by decide)
  | cons x r =>
    obtain ⟨h1, h2, h3⟩ := foldl_max r x
    show r.foldl max x ∈ x :: r ∧ ∀ y ∈ x :: r, y ≤ r.foldl max x
    refine ⟨?_, fun y hy => ?_⟩
    · rcases h1 with e | e
      · rw [e]
        exact List.mem_cons_self ..
      · exact List.mem_cons_of_mem _ e
    · rcases List.mem_cons.mp hy with rfl | hy
      · exact h2
      · exact h3 y hy
theorem ev_minL {K : PySem.W.Frag} {σ : L2.St} {H : Hp} {te : TE} {ns : List Int} (h : EvS K te σ H (ns.map V.int)) (hl : 0 < ns.length) : Ev (tCB (rMin K) (tCons te tNil)) σ H (.int (minL ns)) := fun H1 e Q q =>
  h H1 e _ fun p H2 e2 hp => ⟨p, ns, rfl, hp, hl, fun m hm ha => by
    obtain ⟨h1, h2⟩ := minL_is hl
    have : m = minL ns := Int.le_antisymm (ha _ h1) (h2 _ hm)
    rw [this]
    exact q H2 e2⟩
theorem ev_maxL {K : PySem.W.Frag} {σ : L2.St} {H : Hp} {te : TE} {ns : List Int} (h : EvS K te σ H (ns.map V.int)) (hl : 0 < ns.length) : Ev (tCB (rMax K) (tCons te tNil)) σ H (.int (maxL ns)) := fun H1 e Q q =>
  h H1 e _ fun p H2 e2 hp => ⟨p, ns, rfl, hp, hl, fun m hm ha => by
    obtain ⟨h1, h2⟩ := maxL_is hl
    have : m = maxL ns := Int.le_antisymm (h2 _ hm) (ha _ h1)
    rw [this]
    exact q H2 e2⟩

/-! ### lists of tuples -/
def RowsAt (H : Hp) : List Addr → List (List V) → Prop
  | [], [] => True
  | p :: ps, f :: fs => H p = some (.tup f) ∧ RowsAt H ps fs
  | _, _ => False
theorem RowsAt.len {H : Hp} : ∀ {ps : List Addr} {fs : List (List V)}, RowsAt H ps fs → ps.length = fs.length
  | [], [], _ => rfl
  | _ :: _, _ :: _, h => by rw [List.length_cons, List.length_cons, RowsAt.len h.2]
  | [], _ :: _, h => h.elim
  | _ :: _, [], h => h.elim
theorem RowsAt.get {H : Hp} : ∀ {ps : List Addr} {fs : List (List V)}, RowsAt H ps fs → ∀ (i : Nat) (p : Addr), ps[i]? = some p → ∃ f, fs[i]? = some f ∧ H p = some (.tup f)
  | [], _, _, i, p, hp => by simp at hp
  | q :: ps, f :: fs, h, 0, p, hp => ⟨f, rfl, by cases hp; exact h.1⟩
  | q :: ps, f :: fs, h, i + 1, p, hp => RowsAt.get h.2 i p hp
  | _ :: _, [], h, _, _, _ => h.elim
theorem RowsAt.rel {H H' : Hp} (r : ∀ p t, H p = some (.tup t) → H' p = some (.tup t)) : ∀ {ps : List Addr} {fs : List (List V)}, RowsAt H ps fs → RowsAt H' ps fs
  | [], [], _ => trivial
  | _ :: _, _ :: _, h => ⟨r _ _ h.1, RowsAt.rel r h.2⟩
  | [], _ :: _, h => h.elim
  | _ :: _, [], h => h.elim
theorem RowsAt.ex {H H' : Hp} {ps : List Addr} {fs : List (List V)} (h : RowsAt H ps fs) (e : Ex H H') : RowsAt H' ps fs := h.rel fun p t g => e p _ g
theorem RowsAt.updL {H : Hp} {D : Addr} {xs ys : List V} {ps : List Addr} {fs : List (List V)} (h : RowsAt H ps fs) (hD : H D = some (.lst xs)) : RowsAt (upd H D (.lst ys)) ps fs := h.rel fun p t g => by
  have : p ≠ D := by rintro rfl; rw [hD] at g; cases g
  rw [upd_ne this]
  exact g
theorem RowsAt.snoc {H : Hp} {p : Addr} {f : List V} (hp : H p = some (.tup f)) : ∀ {ps : List Addr} {fs : List (List V)}, RowsAt H ps fs → RowsAt H (ps ++ [p]) (fs ++ [f])
  | [], [], _ => ⟨hp, trivial⟩
  | _ :: _, _ :: _, h => ⟨h.1, RowsAt.snoc hp h.2⟩
  | [], _ :: _, h => h.elim
  | _ :: _, [], h => h.elim
theorem ref_at {ps : List Addr} {i : Nat} {x : V} (hx : (ps.map V.ref)[i]? = some x) : ∃ p, ps[i]? = some p ∧ i < ps.length ∧ x = V.ref p := by
  rw [List.getElem?_map] at hx
  cases en : ps[i]? with
  | none => rw [en] at hx; cases hx
  | some n => rw [en] at hx; exact ⟨n, rfl, (List.getElem?_eq_some_iff.mp en).1, (Option.some.inj hx).symm⟩
theorem at_ref {ps : List Addr} {i : Nat} {p : Addr} (h : ps[i]? = some p) : (ps.map V.ref)[i]? = some (V.ref p) := by rw [List.getElem?_map, h]; rfl
/-! ### rows of flat values as data -/
def datF : V → PyData
  | .int i => .int i
  | .bl b => .bool b
  | _ => .none
def flatR (f : List V) : Prop := ∀ v ∈ f, (∃ i, v = .int i) ∨ (∃ b, v = .bl b) ∨ v = .non
theorem dp_flat {K : PySem.W.Frag} {H : Hp} : ∀ {f : List V}, flatR f → DpAll K H f (f.map datF)
  | [], _ => .nil
  | v :: r, h => by
    refine .cons ?_ (dp_flat fun x hx => h x (List.mem_cons_of_mem _ hx))
    rcases h v (List.mem_cons_self ..) with ⟨i, rfl⟩ | ⟨b, rfl⟩ | rfl
    · exact .int i
    · exact .bl b
    · exact .non
def datR (f : List V) : PyData := .tuple (f.map datF)
theorem RowsAt.d {K : PySem.W.Frag} {H : Hp} : ∀ {ps : List Addr} {fs : List (List V)}, RowsAt H ps fs → (∀ f ∈ fs, flatR f) → DpAll K H (ps.map V.ref) (fs.map datR)
  | [], [], _, _ => .nil
  | _ :: _, _ :: _, h, hf => .cons (.tup (st_of h.1) (dp_flat (hf _ (List.mem_cons_self ..)))) (RowsAt.d h.2 fun f hm => hf f (List.mem_cons_of_mem _ hm))
  | [], _ :: _, h, _ => h.elim
  | _ :: _, [], h, _ => h.elim
theorem lay_flat : ∀ {f : List V}, PyData.canLayAll0 (f.map datF) = true ∧ PyData.depthAll (f.map datF) ≤ 1
  | [] => ⟨by simp [PyData.canLayAll0], by simp [PyData.depthAll]⟩
  | v :: r => by
    obtain ⟨h1, h2⟩ := lay_flat (f := r)
    have h3 : PyData.canLay0 (datF v) = true ∧ PyData.depth (datF v) ≤ 1 := by
      cases v <;> exact ⟨by simp [datF, PyData.canLay0], by simp [datF, PyData.depth]⟩
    refine ⟨?_, ?_⟩
    · show PyData.canLayAll0 (datF v :: r.map datF) = true
      rw [PyData.canLayAll0, h1, h3.1]
      rfl
    · show PyData.depthAll (datF v :: r.map datF) ≤ 1
      simp only [PyData.depthAll]
      omega
theorem lay_rows : ∀ fs : List (List V), PyData.canLayAll0 (fs.map datR) = true ∧ PyData.depthAll (fs.map datR) ≤ 3
  | [] => ⟨by simp [PyData.canLayAll0], by simp [PyData.depthAll]⟩
  | f :: r => by
    obtain ⟨h1, h2⟩ := lay_rows r
    obtain ⟨h3, h4⟩ := lay_flat (f := f)
    refine ⟨?_, ?_⟩
    · show PyData.canLayAll0 (datR f :: r.map datR) = true
      rw [PyData.canLayAll0, h1]
      unfold datR
      rw [PyData.canLay0, h3]
      rfl
    · show PyData.depthAll (datR f :: r.map datR) ≤ 3
      unfold datR at *
      simp only [PyData.depthAll, PyData.depth] at *
      omega
theorem shaped_rows (fs : List (List V)) : SeqAt.shaped (.list (fs.map datR)) = true := by
  unfold SeqAt.shaped
  obtain ⟨h1, h2⟩ := lay_rows fs
  rw [Bool.and_eq_true, decide_eq_true_iff]
  refine ⟨by simpa only [PyData.canLay0] using h1, ?_⟩
  rw [PyData.depth]
  omega

/-- what the top has left -/
structure TX (K : PySem.W.Frag) (mg : Str → Option Value) where
  a_StreamInfo_init : Addr
  d_StreamInfo_init : FuncData
  F_StreamInfo_init : Fun K "__init__" "StreamInfo.__init__" s_StreamInfo_init a_StreamInfo_init d_StreamInfo_init
  b_StreamInfo_init : Binds K d_StreamInfo_init ["self", "least_block", "greatest_block", "least_frame", "greatest_frame", "rate", "channel_count", "depth", "length", "digest"] []
  a_FrameHeader_init : Addr
  d_FrameHeader_init : FuncData
  F_FrameHeader_init : FunD K "__init__" "FrameHeader.__init__" (defArgs s_FrameHeader_init) (defBody s_FrameHeader_init) (defScope s_FrameHeader_init) [] [] a_FrameHeader_init d_FrameHeader_init
  k1_variable_block_size_rate_channels_assignment_depth_number_FrameHeader_init : KBn K d_FrameHeader_init ["self", "variable", "block_size", "rate", "channels", "assignment", "depth", "number"] 1 ["variable", "block_size", "rate", "channels", "assignment", "depth", "number"] (fun us ws => us ++ ws) (fun us ws => us ++ ws)
  a_Earlier_init : Addr
  d_Earlier_init : FuncData
  F_Earlier_init : Fun K "__init__" "Earlier.__init__" s_Earlier_init a_Earlier_init d_Earlier_init
  b_Earlier_init : Binds K d_Earlier_init ["self", "count", "samples", "variable", "first_size", "least_size", "is_uniform"] []
  a_Earlier_followed_by : Addr
  d_Earlier_followed_by : FuncData
  F_Earlier_followed_by : Fun K "followed_by" "Earlier.followed_by" s_Earlier_followed_by a_Earlier_followed_by d_Earlier_followed_by
  b_Earlier_followed_by : Binds K d_Earlier_followed_by ["self", "variable", "size"] []
  a_no_frames : Addr
  d_no_frames : FuncData
  F_no_frames : Fun K "no_frames" "no_frames" s_no_frames a_no_frames d_no_frames
  b_no_frames : Binds K d_no_frames [] []
  g_no_frames : mg "no_frames" = some (.ref a_no_frames)
  a_has_form : Addr
  d_has_form : FuncData
  F_has_form : Fun K "has_form" "has_form" s_has_form a_has_form d_has_form
  b_has_form : Binds K d_has_form ["header", "info"] []
  g_has_form : mg "has_form" = some (.ref a_has_form)
  a_fault_behind : Addr
  d_fault_behind : FuncData
  F_fault_behind : Fun K "fault_behind" "fault_behind" s_fault_behind a_fault_behind d_fault_behind
  b_fault_behind : Binds K d_fault_behind ["info", "earlier", "header", "length"] []
  g_fault_behind : mg "fault_behind" = some (.ref a_fault_behind)
  a_is_of_the_stream : Addr
  d_is_of_the_stream : FuncData
  F_is_of_the_stream : Fun K "_is_of_the_stream" "_is_of_the_stream" s_is_of_the_stream a_is_of_the_stream d_is_of_the_stream
  b_is_of_the_stream : Binds K d_is_of_the_stream ["info", "earlier", "header"] []
  g_is_of_the_stream : mg "_is_of_the_stream" = some (.ref a_is_of_the_stream)
  a_size_allowed : Addr
  d_size_allowed : FuncData
  F_size_allowed : Fun K "_size_allowed" "_size_allowed" s_size_allowed a_size_allowed d_size_allowed
  b_size_allowed : Binds K d_size_allowed ["info", "earlier", "header"] []
  g_size_allowed : mg "_size_allowed" = some (.ref a_size_allowed)
  a_length_allowed : Addr
  d_length_allowed : FuncData
  F_length_allowed : Fun K "_length_allowed" "_length_allowed" s_length_allowed a_length_allowed d_length_allowed
  b_length_allowed : Binds K d_length_allowed ["info", "length"] []
  g_length_allowed : mg "_length_allowed" = some (.ref a_length_allowed)
  a_check_frame : Addr
  d_check_frame : FuncData
  F_check_frame : Fun K "check_frame" "check_frame" s_check_frame a_check_frame d_check_frame
  b_check_frame : Binds K d_check_frame ["info", "earlier", "header", "length"] []
  g_check_frame : mg "check_frame" = some (.ref a_check_frame)
  a_law_cell : Addr
  d_law_cell : FuncData
  F_law_cell : Fun K "_law_cell" "_law_cell" s_law_cell a_law_cell d_law_cell
  b_law_cell : Binds K d_law_cell ["script", "k"] []
  g_law_cell : mg "_law_cell" = some (.ref a_law_cell)
  a_law_earlier : Addr
  d_law_earlier : FuncData
  F_law_earlier : Fun K "_law_earlier" "_law_earlier" s_law_earlier a_law_earlier d_law_earlier
  b_law_earlier : Binds K d_law_earlier ["script", "varies", "most"] []
  g_law_earlier : mg "_law_earlier" = some (.ref a_law_earlier)
  a_law_due : Addr
  d_law_due : FuncData
  F_law_due : Fun K "_law_due" "_law_due" s_law_due a_law_due d_law_due
  b_law_due : Binds K d_law_due ["limits", "earlier", "drawn"] []
  g_law_due : mg "_law_due" = some (.ref a_law_due)
  a_law : Addr
  d_law : FuncData
  F_law : Fun K "law" "law" s_law a_law d_law
  b_law : Binds K d_law ["script"] []
  g_law : mg "law" = some (.ref a_law)
  C_StreamInfo : Addr
  cl_StreamInfo : Cls K C_StreamInfo
  g_StreamInfo : mg "StreamInfo" = some (.ref C_StreamInfo)
  M_StreamInfo : Mk K C_StreamInfo a_StreamInfo_init
  n_StreamInfo_least_block : NoAttr K C_StreamInfo "least_block"
  n_StreamInfo_greatest_block : NoAttr K C_StreamInfo "greatest_block"
  n_StreamInfo_least_frame : NoAttr K C_StreamInfo "least_frame"
  n_StreamInfo_greatest_frame : NoAttr K C_StreamInfo "greatest_frame"
  n_StreamInfo_rate : NoAttr K C_StreamInfo "rate"
  n_StreamInfo_channel_count : NoAttr K C_StreamInfo "channel_count"
  n_StreamInfo_depth : NoAttr K C_StreamInfo "depth"
  n_StreamInfo_length : NoAttr K C_StreamInfo "length"
  n_StreamInfo_digest : NoAttr K C_StreamInfo "digest"
  C_FrameHeader : Addr
  cl_FrameHeader : Cls K C_FrameHeader
  g_FrameHeader : mg "FrameHeader" = some (.ref C_FrameHeader)
  M_FrameHeader : Mk K C_FrameHeader a_FrameHeader_init
  n_FrameHeader_variable : NoAttr K C_FrameHeader "variable"
  n_FrameHeader_block_size : NoAttr K C_FrameHeader "block_size"
  n_FrameHeader_rate : NoAttr K C_FrameHeader "rate"
  n_FrameHeader_channels : NoAttr K C_FrameHeader "channels"
  n_FrameHeader_assignment : NoAttr K C_FrameHeader "assignment"
  n_FrameHeader_depth : NoAttr K C_FrameHeader "depth"
  n_FrameHeader_number : NoAttr K C_FrameHeader "number"
  C_Earlier : Addr
  cl_Earlier : Cls K C_Earlier
  g_Earlier : mg "Earlier" = some (.ref C_Earlier)
  M_Earlier : Mk K C_Earlier a_Earlier_init
  me_Earlier_followed_by : Meth K C_Earlier "followed_by" a_Earlier_followed_by
  n_Earlier_count : NoAttr K C_Earlier "count"
  n_Earlier_samples : NoAttr K C_Earlier "samples"
  n_Earlier_variable : NoAttr K C_Earlier "variable"
  n_Earlier_first_size : NoAttr K C_Earlier "first_size"
  n_Earlier_least_size : NoAttr K C_Earlier "least_size"
  n_Earlier_is_uniform : NoAttr K C_Earlier "is_uniform"
  m_list : mg "list" = none
  m_min : mg "min" = none
  m_len : mg "len" = none
  m_int : mg "int" = none
  m_range : mg "range" = none
  m_sum : mg "sum" = none
section
variable {P : Program} {w : World} {K : PySem.W.Frag} {mg : Str → Option Value} {base : Heap}
/-! ### int(x), bits of a number -/
theorem Ev.is {σ : L2.St} {H : Hp} {te : TE} {x y : V} (h : Ev te σ H x) (e : x = y) : Ev te σ H y := e ▸ h
theorem ev_int1 {σ : L2.St} {H : Hp} {te : TE} {i : Int} (h : Ev te σ H (.int i)) : Ev (tCB (fun xs H Q => (∃ i, xs = [V.int i] ∧ Q (V.int i) H) ∨ ∃ k, xs = [V.bl k] ∧ Q (V.int (if k = true then 1 else 0)) H) (tCons te tNil)) σ H (.int i) :=
  ev_cb (ea_cons h ea_nil) fun H1 _ Q q => .inl ⟨i, rfl, q H1 (Ex.refl H1)⟩
theorem q_augR {σ : L2.St} {H : Hp} {te : TE} {D : Ends} {tz : TS} {i : Nat} {g : Int → Int → V} {a b : Int} (h1 : σ[i]? = some (some (.int a))) (h : Ev te σ H (.int b)) (k : ∀ H1, Ex H H1 → tz D (σ.set i (some (g a b))) H1) : tSeq (tAug i te (rI0 g)) tz D σ H :=
  ⟨_, h1, h H (Ex.refl H) _ fun H1 e => ⟨a, b, rfl, rfl, k H1 e⟩⟩
theorem s_augR {σ : L2.St} {H : Hp} {te : TE} {D : Ends} {i : Nat} {g : Int → Int → V} {a b : Int} (h1 : σ[i]? = some (some (.int a))) (h : Ev te σ H (.int b)) (k : ∀ H1, Ex H H1 → D.nx (σ.set i (some (g a b))) H1) : tAug i te (rI0 g) D σ H :=
  ⟨_, h1, h H (Ex.refl H) _ fun H1 e => ⟨a, b, rfl, rfl, k H1 e⟩⟩
theorem ev_atT {K : PySem.W.Frag} {σ : L2.St} {H : Hp} {tl ti : TE} {t : Addr} {xs : List V} {n : Int} {v : V} (h : Ev tl σ H (.ref t)) (hT : SqT K H t xs) (hi : Ev ti σ H (.int n)) (ha : atI xs n = some v) : Ev (tOp (rIxT K) tl ti) σ H v := fun H1 e Q q =>
  h H1 e _ fun H2 e2 => hi H2 (e.trans e2) _ fun H3 e3 => ⟨t, xs, n, v, rfl, rfl, ex_t ((e.trans e2).trans e3) hT, ha, q H3 (e2.trans e3)⟩
local macro_rules | `(tactic| walk_at "side") => `(tactic| first
  | omega
  | (show CDivW _ _; exact ⟨by omega, by decide⟩)
  | (show CDivW _ _; exact wide_div (b := 80) (by omega) (by omega) (by decide) (by decide)))
local macro_rules | `(tactic| walk_at "evown") => `(tactic| (refine' ev_int1 ?h1; (case h1 => walk_at "ev")))
/-- numbers from 0 on, as such -/
def cs (ds : List Nat) : List Int := ds.map fun d : Nat => (d : Int)
theorem cs_of {ns : List Int} {b : Int} (h : ∀ n ∈ ns, 0 ≤ n ∧ n < b) : ∃ ds : List Nat, ns = cs ds ∧ ds.length = ns.length ∧ ∀ d ∈ ds, (d : Int) < b := by
  refine ⟨ns.map Int.toNat, ?_, List.length_map .., fun d hd => ?_⟩
  · unfold cs
    rw [List.map_map]
    conv => lhs; rw [← List.map_id ns]
    refine List.map_congr_left fun n hn => ?_
    have := (h n hn).1
    show n = ((n.toNat : Nat) : Int)
    omega
  · obtain ⟨n, hn, rfl⟩ := List.mem_map.mp hd
    have := h n hn
    omega
theorem cs_len (ds : List Nat) : (cs ds).length = ds.length := List.length_map ..
theorem cs_at {ds : List Nat} {i : Nat} {d : Nat} (h : ds[i]? = some d) : (cs ds)[i]? = some (d : Int) := by unfold cs; rw [List.getElem?_map, h]; rfl
theorem cs_take (ds : List Nat) (i : Nat) : (cs ds).take i = cs (ds.take i) := by unfold cs; rw [List.map_take]
theorem cs_drop (ds : List Nat) (i : Nat) : (cs ds).drop i = cs (ds.drop i) := by unfold cs; rw [List.map_drop]
theorem cs_append (ds es : List Nat) : cs (ds ++ es) = cs ds ++ cs es := List.map_append ..

def sp_cell (K : PySem.W.Frag) : Sp := fun vs H Q _ => ∃ (a : Addr) (ns : List Int) (k : Int), vs = [.ref a, .int k] ∧ SqL K H a (ns.map V.int) ∧ 0 ≤ k ∧ RetV (.int (cellI ns k)) H Q
theorem ok_law_cell (T : TX K mg) : FnOk P w K mg base CX0 1 T.a_law_cell T.d_law_cell ["script", "k"] (sp_cell K) := by
  refine T.F_law_cell.ok sc_law_cell (fun vs H Q E h => by obtain ⟨a, ns, k, rfl, _⟩ := h; rfl) (fun cdv A outer s H vs Q E hr h => ?_)
  obtain ⟨a, ns, k, rfl, hS, hk, q⟩ := h
  refine ⟨_, (pss_cons (ps_if (pt_cmpR op_lt (pv 1) (pe_callB (r := rLenS K) call_len_seq (by rfl) T.m_len PySem.boot_len (pa_cons (pv 0) pa_nil)) (nomark _)) (pss_one (ps_ret (pe_callTy call_int1 (by rfl) T.m_int PyProof.Rows.boot_int (pa_cons (pe_ix (r := rIxL K) ix_list (pv 0) (pv 1) (fun _ _ => rfl)) pa_nil)))) pss_nil)
      (pss_one (ps_ret pe_int))), ?_⟩
  have hl := (ev_lenS (K := K) (Ev.s (te := tVar 0) (σ := start ["script", "k"] [.ref a, .int k]) (ev_var rfl) hS))
  refine q_when (et_test (ev_I0 (ev_var rfl) hl)) ?_ ?_
  · intro hb H1 e1
    have hb : k < ns.length := by
      have := of_decide_eq_true hb
      rwa [List.length_map] at this
    refine s_ret (v := .int (cellI ns k)) (ev_int1 (ev_ixS (i := 0) (n := k) (Ev.s (ev_var rfl) (ex_l e1 hS)) (ev_var rfl) ?_)) fun H2 e2 => q H2 (e1.trans e2)
    exact at_of (j := k.toNat) (by omega) (at_int (cellI_in hk hb))
  · intro hb H1 e1
    have hb : ¬ k < ns.length := by
      have := of_decide_eq_false hb
      rwa [List.length_map] at this
    walk_at "ret"
    intro H2 e2
    exact ret_eq q (e1.trans e2) (by rw [cellI_out hb])
theorem ev_cell {σ : L2.St} {H : Hp} {ta tk : TE} {E : XK} {ns : List Int} {k : Int} {a : Addr} (ha : Ev ta σ H (.ref a)) (hS : SqL K H a (ns.map V.int)) (hk : Ev tk σ H (.int k)) (h0 : 0 ≤ k) : Ev (tCall (sp_cell K) [] E (tCons ta (tCons tk tNil))) σ H (.int (cellI ns k)) :=
  ev_call (ea_cons ha (ea_cons hk ea_nil)) fun H1 e Q q _ => ⟨a, ns, k, rfl, ex_l e hS, h0, q⟩

theorem ev_intB {σ : L2.St} {H : Hp} {te : TE} {b : Bool} (h : Ev te σ H (.bl b)) : Ev (tCB (fun xs H Q => (∃ i, xs = [V.int i] ∧ Q (V.int i) H) ∨ ∃ k, xs = [V.bl k] ∧ Q (V.int (if k = true then 1 else 0)) H) (tCons te tNil)) σ H (.int (if b = true then 1 else 0)) :=
  ev_cb (ea_cons h ea_nil) fun H1 _ Q q => .inr ⟨b, rfl, q H1 (Ex.refl H1)⟩

/-! ### objects: fields, methods, making -/
section
variable {K : PySem.W.Frag} {σ : L2.St} {H : Hp} {to te tv : TE} {a C : Addr} {dx : Addr} {fs : List (Str × V)} {f m : Str} {v : V} {D : Ends} {tz : TS} {sp : Sp} {dvs vs : List V} {E : XK} {t : TA}
theorem ev_fld (c : Cls K C) (hn : NoAttr K C f) (h : Ev to σ H (.ref a)) (hx : H a = some (.ins C dx fs)) (hl : fs.lookup f = some v) : Ev (tFld K to f) σ H v := fun H1 e Q q => h H1 e _ fun H2 e2 => ⟨a, C, dx, fs, v, rfl, (e.trans e2) _ _ hx, c, hn, hl, q H2 e2⟩
theorem q_fld (c : Cls K C) (hn : NoAttr K C f) (hv : Ev tv σ H v) (h : Ev to σ H (.ref a)) (hx : H a = some (.ins C dx fs)) (hl : fs.length < 1000) (k : ∀ H1, Ex H H1 → tz D σ (upd H1 a (.ins C dx (putF f v fs)))) : tSeq (sFld K to tv f) tz D σ H :=
  hv H (Ex.refl H) _ fun H1 e1 => h H1 e1 _ fun H2 e2 => ⟨a, C, dx, fs, rfl, (e1.trans e2) _ _ hx, c, hn, hl, k H2 (e1.trans e2)⟩
theorem s_fld (c : Cls K C) (hn : NoAttr K C f) (hv : Ev tv σ H v) (h : Ev to σ H (.ref a)) (hx : H a = some (.ins C dx fs)) (hl : fs.length < 1000) (k : ∀ H1, Ex H H1 → D.nx σ (upd H1 a (.ins C dx (putF f v fs)))) : sFld K to tv f D σ H :=
  hv H (Ex.refl H) _ fun H1 e1 => h H1 e1 _ fun H2 e2 => ⟨a, C, dx, fs, rfl, (e1.trans e2) _ _ hx, c, hn, hl, k H2 (e1.trans e2)⟩
theorem q_fldL {xs : List V} (c : Cls K C) (hn : NoAttr K C f) (hv : EvL tv σ H xs) (h : ∀ H1, Ex H H1 → Ev to σ H1 (.ref a)) (hx : H a = some (.ins C dx fs)) (hl : fs.length < 1000) (k : ∀ p H1, H p = none → Ex H H1 → H1 p = some (.lst xs) → tz D σ (upd H1 a (.ins C dx (putF f (.ref p) fs)))) : tSeq (sFld K to tv f) tz D σ H :=
  hv H (Ex.refl H) _ fun p H1 hp e1 g1 => h H1 e1 H1 (Ex.refl H1) _ fun H2 e2 => ⟨a, C, dx, fs, rfl, (e1.trans e2) _ _ hx, c, hn, hl, k p H2 hp (e1.trans e2) (e2 _ _ g1)⟩
/-- o.m(..), whatever m promises -/
theorem mth (h : Ev to σ H (.ref a)) (hx : H a = some (.ins C dx fs)) (hm : fs.lookup m = none) (ha : EvA t σ H vs) {Q : VK} (k : ∀ H1, Ex H H1 → sp (.ref a :: (vs ++ dvs)) H1 Q E) : tMeth C m sp dvs E to t σ H Q :=
  h H (Ex.refl H) _ fun H1 e1 => ⟨a, dx, fs, rfl, e1 _ _ hx, hm, ha H1 e1 _ fun H2 e2 => k H2 (e1.trans e2)⟩
theorem q_dropM (h : Ev to σ H (.ref a)) (hx : H a = some (.ins C dx fs)) (hm : fs.lookup m = none) (ha : EvA t σ H vs) (k : ∀ H1, Ex H H1 → sp (.ref a :: (vs ++ dvs)) H1 (fun _ H2 => tz D σ H2) E) : tSeq (tDrop (tMeth C m sp dvs E to t)) tz D σ H := mth h hx hm ha k
theorem s_dropM (h : Ev to σ H (.ref a)) (hx : H a = some (.ins C dx fs)) (hm : fs.lookup m = none) (ha : EvA t σ H vs) (k : ∀ H1, Ex H H1 → sp (.ref a :: (vs ++ dvs)) H1 (fun _ H2 => D.nx σ H2) E) : tDrop (tMeth C m sp dvs E to t) D σ H := mth h hx hm ha k
theorem q_asgM {i : Nat} (h : Ev to σ H (.ref a)) (hx : H a = some (.ins C dx fs)) (hm : fs.lookup m = none) (ha : EvA t σ H vs) (k : ∀ H1, Ex H H1 → sp (.ref a :: (vs ++ dvs)) H1 (fun x H2 => tz D (σ.set i (some x)) H2) E) : tSeq (tAsg (tMeth C m sp dvs E to t) (gName i)) tz D σ H := mth h hx hm ha k
theorem s_retM (h : Ev to σ H (.ref a)) (hx : H a = some (.ins C dx fs)) (hm : fs.lookup m = none) (ha : EvA t σ H vs) (k : ∀ H1, Ex H H1 → sp (.ref a :: (vs ++ dvs)) H1 D.rt E) : tRet (tMeth C m sp dvs E to t) D σ H := mth h hx hm ha k
/-- a method that changes nothing and gives a value -/
theorem ev_mth (h : Ev to σ H (.ref a)) (hx : H a = some (.ins C dx fs)) (hm : fs.lookup m = none) (ha : EvA t σ H vs) (k : SpV sp (.ref a :: (vs ++ dvs)) H v) : Ev (tMeth C m sp dvs E to t) σ H v := fun H1 e Q q =>
  h H1 e _ fun H2 e2 => ⟨a, dx, fs, rfl, (e.trans e2) _ _ hx, hm, ha H2 (e.trans e2) _ fun H3 e3 => k H3 ((e.trans e2).trans e3) Q (fun H4 e4 => q H4 ((e2.trans e3).trans e4)) E⟩
end
theorem fresh_ne {H : Hp} {p q : Addr} {o : HO} (hp : H p = none) (hq : H q = some o) : q ≠ p := ne_of_none hq hp
theorem bitNot_eq (x : Int) : Builtin.bitNot x = -x - 1 := rfl
theorem bitAnd_maskZ (x : Int) (k : Nat) : Builtin.bitAnd x (2 ^ k - 1) = x % 2 ^ k := by
  by_cases h : 0 ≤ x
  · exact _root_.Bits.bitAnd_mask k h
  · have hp : (1 : Int) ≤ 2 ^ k := by
      have : 0 < 2 ^ k := Nat.two_pow_pos k
      have h2 : ((2 : Int) ^ k) = ((2 ^ k : Nat) : Int) := by rw [Int.natCast_pow]; rfl
      omega
    rw [PyProof.Rows.bitAnd_np h (by omega), Nat.and_comm]
    have h2 : ((2 : Int) ^ k) = ((2 ^ k : Nat) : Int) := by rw [Int.natCast_pow]; rfl
    have h3 : ((2 : Int) ^ k - 1).toNat = 2 ^ k - 1 := by omega
    rw [h3, Nat.and_two_pow_sub_one_eq_mod, bitNot_eq]
    have h4 : ((-x - 1).toNat : Int) = -x - 1 := by omega
    rw [h2, Int.natCast_emod, h4]
    generalize 2 ^ k = m at *
    have hm : (0 : Int) < (m : Int) := by omega
    have e1 := Int.emod_add_mul_ediv x m
    have e2 := Int.emod_add_mul_ediv (-x - 1) m
    have a1 := Int.emod_nonneg x (by omega : (m : Int) ≠ 0)
    have a2 := Int.emod_lt_of_pos x hm
    have b1 := Int.emod_nonneg (-x - 1) (by omega : (m : Int) ≠ 0)
    have b2 := Int.emod_lt_of_pos (-x - 1) hm
    generalize x % (m : Int) = r at *
    generalize (-x - 1) % (m : Int) = s at *
    generalize x / (m : Int) = p at *
    generalize (-x - 1) / (m : Int) = q at *
    -- r + s + 1 is a multiple of m between 1 and 2m - 1
    have e3 : r + s + 1 = m * (-(p + q)) := by
      rw [Int.mul_neg, Int.mul_add]
      omega
    have h5 : -(p + q) = 1 := by
      have c1 : 0 < (m : Int) * (-(p + q)) := by omega
      have c2 : (m : Int) * (-(p + q)) < m * 2 := by omega
      have c3 := Int.pos_of_mul_pos_right (a := (m : Int)) (b := -(p + q)) (by exact c1) hm
      have c4 : -(p + q) < 2 := Int.lt_of_mul_lt_mul_left c2 (by omega)
      omega
    rw [h5, Int.mul_one] at e3
    omega
theorem q_fldaugI {K : PySem.W.Frag} {σ : L2.St} {H : Hp} {to tv : TE} {a C dx : Addr} {fs : List (Str × V)} {f : Str} {i j : Int} {D : Ends} {tz : TS} (c : Cls K C) (hn : NoAttr K C f) (h : Ev to σ H (.ref a)) (hx : H a = some (.ins C dx fs)) (hl : fs.lookup f = some (.int i)) (hv : Ev tv σ H (.int j)) (hz : fs.length < 1000)
    (k : ∀ H1, Ex H H1 → tz D σ (upd H1 a (.ins C dx (putF f (.int (i + j)) fs)))) : tSeq (sFldAug K to tv rAdd f) tz D σ H :=
  h H (Ex.refl H) _ fun H1 e1 => ⟨a, C, dx, fs, .int i, rfl, e1 _ _ hx, c, hn, hl, hv H1 e1 _ fun H2 e2 => ⟨i, j, rfl, rfl, dx, fs, (e1.trans e2) _ _ hx, hz, k H2 (e1.trans e2)⟩⟩
/-- [e for j in range(n)] whose element changes objects -/
theorem tlc_rngM {ta : TA} {te : TE} {vs : List Nat} {n : Int} {j : Nat} {σ : L2.St} {H : Hp} {Q : VK} (h : EvA ta σ H [.int n]) (hn : -100000 ≤ n ∧ n ≤ 100000)
    (k : ∀ H1, Ex H H1 → ∀ Dl, H1 Dl = none → ∃ Pv : Nat → Hp → Prop, Pv 0 (upd H1 Dl (.lst [])) ∧ (∀ (i : Nat) H', i < n.toNat → Pv i H' → wipe ((wipe σ vs).set j (some (.int (i : Int)))) vs = wipe σ vs ∧ te ((wipe σ vs).set j (some (.int (i : Int)))) H' fun y H4 => ∃ acc, H4 Dl = some (.lst acc) ∧ acc.length < sizeLine ∧ Pv (i + 1) (upd H4 Dl (.lst (acc ++ [y])))) ∧ (∀ H', Pv n.toNat H' → Q (.ref Dl) H')) :
    tLc (iRng1 ta) (gName j) tYes te vs σ H Q := h H (Ex.refl H) _ fun H1 e1 => ⟨n, rfl, by omega, by omega, fun Dl hD => by
  obtain ⟨Pv, h0, hs, hd⟩ := k H1 e1 Dl hD
  refine lc_range (lo := 0) (n := n.toNat) Pv h0 (fun i H' hi p => ?_) hd
  rw [Int.zero_add]
  exact hs i H' hi p⟩

/-! ### objects that are made once -/
def FrO (a : Addr) (H H' : Hp) : Prop := ∀ b o, b ≠ a → H b = some o → H' b = some o
theorem FrO.ex {a : Addr} {H H' : Hp} (e : Ex H H') : FrO a H H' := fun b o _ h => e b o h
theorem FrO.trans {a : Addr} {H H1 H2 : Hp} (x : FrO a H H1) (y : FrO a H1 H2) : FrO a H H2 := fun b o hb h => y b o hb (x b o hb h)
theorem FrO.upd {a : Addr} {H H' : Hp} {o : HO} (f : FrO a H H') : FrO a H (upd H' a o) := fun b u hb h => by rw [upd_ne hb]; exact f b u hb h
def EvN (te : TE) (σ : L2.St) (H : Hp) (R : Addr → Hp → Prop) : Prop := ∀ H1, Ex H H1 → ∀ Q : VK, (∀ p H2, H1 p = none → Ex H1 H2 → R p H2 → Q (.ref p) H2) → te σ H1 Q
section
variable {K : PySem.W.Frag} {σ : L2.St} {H : Hp} {te ta tb : TE} {C : Addr} {sp : Sp} {dvs vs zs : List V} {E : XK} {t tk : TA} {R : Addr → Hp → Prop} {D : Ends} {tz : TS} {n m i : Nat} {gV : List V → List V → List V}
theorem en_make (h : EvA t σ H vs) (k : ∀ a dx H1 (Q : VK) (E : XK), Ex H H1 → H1 a = some (.ins C dx []) → (∀ H', FrO a H1 H' → R a H' → Q .non H') → sp (.ref a :: (vs ++ dvs)) H1 Q E) : EvN (tMake C sp dvs E t) σ H R := fun H1 e Q q =>
  h H1 e _ fun H2 e2 => fun x dx hx hdx hne => k x dx _ _ _ ((e.trans e2).trans (Ex.mut (Ex.new hdx) hx)) upd_same fun H' hF hR => ⟨rfl, q x H' (fresh_back e2 hx) (fun b o hb => hF b o (fresh_ne hx (e2 b o hb)) ((Ex.mut (Ex.new hdx) hx) b o (e2 b o hb))) hR⟩
theorem en_makeK (h : EvA t σ H vs) (hz : EvA tk σ H zs) (l1 : vs.length = n) (l2 : zs.length = m) (k : ∀ a dx H1 (Q : VK) (E : XK), Ex H H1 → H1 a = some (.ins C dx []) → (∀ H', FrO a H1 H' → R a H' → Q .non H') → sp (gV (.ref a :: vs) zs) H1 Q E) : EvN (tMakeK C n m sp gV E t tk) σ H R := fun H1 e Q q =>
  h H1 e _ fun H2 e2 => hz H2 (e.trans e2) _ fun H3 e3 => ⟨l1, l2, fun x dx hx hdx hne => k x dx _ _ _ (((e.trans e2).trans e3).trans (Ex.mut (Ex.new hdx) hx)) upd_same fun H' hF hR => ⟨rfl, q x H' (fresh_back (e2.trans e3) hx) (fun b o hb => hF b o (fresh_ne hx ((e2.trans e3) b o hb)) ((Ex.mut (Ex.new hdx) hx) b o ((e2.trans e3) b o hb))) hR⟩⟩
theorem q_asgN (h : EvN te σ H R) (k : ∀ p H1, H p = none → Ex H H1 → R p H1 → tz D (σ.set i (some (.ref p))) H1) : tSeq (tAsg te (gName i)) tz D σ H := h H (Ex.refl H) _ k
theorem s_asgN (h : EvN te σ H R) (k : ∀ p H1, H p = none → Ex H H1 → R p H1 → D.nx (σ.set i (some (.ref p))) H1) : tAsg te (gName i) D σ H := h H (Ex.refl H) _ k
theorem s_retN (h : EvN te σ H R) (k : ∀ p H1, H p = none → Ex H H1 → R p H1 → D.rt (.ref p) H1) : tRet te D σ H := h H (Ex.refl H) _ k
theorem el_if {c : TT} {b : Bool} {xs : List V} (h : EvT c σ H b) (h1 : b = true → EvL ta σ H xs) (h2 : b = false → EvL tb σ H xs) : EvL (tIf c ta tb) σ H xs := fun H1 e Q q => h H1 e _ fun H2 e2 => by
  cases b with
  | true =>
    rw [if_pos rfl]
    exact h1 rfl H2 (e.trans e2) Q fun p H3 hp e3 g => q p H3 (fresh_back e2 hp) (e2.trans e3) g
  | false =>
    rw [if_neg (by decide)]
    exact h2 rfl H2 (e.trans e2) Q fun p H3 hp e3 g => q p H3 (fresh_back e2 hp) (e2.trans e3) g
theorem s_fldL {a dx : Addr} {fs : List (Str × V)} {f : Str} {to tv : TE} {xs : List V} (c : Cls K C) (hn : NoAttr K C f) (hv : EvL tv σ H xs) (h : ∀ H1, Ex H H1 → Ev to σ H1 (.ref a)) (hx : H a = some (.ins C dx fs)) (hl : fs.length < 1000) (k : ∀ p H1, H p = none → Ex H H1 → H1 p = some (.lst xs) → D.nx σ (upd H1 a (.ins C dx (putF f (.ref p) fs)))) : sFld K to tv f D σ H :=
  hv H (Ex.refl H) _ fun p H1 hp e1 g1 => h H1 e1 H1 (Ex.refl H1) _ fun H2 e2 => ⟨a, C, dx, fs, rfl, (e1.trans e2) _ _ hx, c, hn, hl, k p H2 hp (e1.trans e2) (e2 _ _ g1)⟩
end

/-! ### arguments some of which are new objects -/
def EvAP (t : TA) (σ : L2.St) (H : Hp) (R : List V → Hp → Prop) : Prop := ∀ H1, Ex H H1 → ∀ Q : List V → Hp → Prop, (∀ vs H2, Ex H1 H2 → R vs H2 → Q vs H2) → t σ H1 Q
section
variable {K : PySem.W.Frag} {σ : L2.St} {H : Hp} {te : TE} {tr t : TA} {x : V} {xs : List V} {R : List V → Hp → Prop} {C : Addr} {sp : Sp} {dvs : List V} {E : XK} {S : Addr → Hp → Prop} {D : Ends} {tz : TS} {i : Nat}
theorem ap_nil : EvAP tNil σ H fun vs _ => vs = [] := fun H1 _ _ q => q [] H1 (Ex.refl H1) rfl
theorem ap_ev (h : Ev te σ H x) (hr : EvAP tr σ H R) : EvAP (tCons te tr) σ H fun vs G => ∃ r, vs = x :: r ∧ R r G := fun H1 e Q q =>
  h H1 e _ fun H2 e2 => hr H2 (e.trans e2) _ fun vs H3 e3 hR => q (x :: vs) H3 (e2.trans e3) ⟨vs, rfl, hR⟩
theorem ap_l (h : EvL te σ H xs) (hr : EvAP tr σ H R) : EvAP (tCons te tr) σ H fun vs G => ∃ p r, vs = .ref p :: r ∧ H p = none ∧ G p = some (.lst xs) ∧ R r G := fun H1 e Q q =>
  h H1 e _ fun p H2 hp e2 g => hr H2 (e.trans e2) _ fun vs H3 e3 hR => q (.ref p :: vs) H3 (e2.trans e3) ⟨p, vs, rfl, fresh_back e hp, e3 _ _ g, hR⟩
theorem ap_u (h : EvU te σ H xs) (hr : EvAP tr σ H R) : EvAP (tCons te tr) σ H fun vs G => ∃ p r, vs = .ref p :: r ∧ H p = none ∧ G p = some (.tup xs) ∧ R r G := fun H1 e Q q =>
  h H1 e _ fun p H2 hp e2 g => hr H2 (e.trans e2) _ fun vs H3 e3 hR => q (.ref p :: vs) H3 (e2.trans e3) ⟨p, vs, rfl, fresh_back e hp, e3 _ _ g, hR⟩
theorem en_makeAP (h : EvAP t σ H R) (k : ∀ vs a dx H1 (Q : VK) (E : XK), Ex H H1 → (∃ G, Ex G H1 ∧ R vs G) → H1 a = some (.ins C dx []) → (∀ H', FrO a H1 H' → S a H' → Q .non H') → sp (.ref a :: (vs ++ dvs)) H1 Q E) : EvN (tMake C sp dvs E t) σ H S := fun H1 e Q q =>
  h H1 e _ fun vs H2 e2 hR => fun x dx hx hdx hne => k vs x dx _ _ _ ((e.trans e2).trans (Ex.mut (Ex.new hdx) hx)) ⟨H2, Ex.mut (Ex.new hdx) hx, hR⟩ upd_same fun H' hF hS => ⟨rfl, q x H' (fresh_back e2 hx) (fun b o hb => hF b o (fresh_ne hx (e2 b o hb)) ((Ex.mut (Ex.new hdx) hx) b o (e2 b o hb))) hS⟩
theorem q_asgAP (h : EvAP t σ H R) (k : ∀ vs H1, Ex H H1 → R vs H1 → sp (vs ++ dvs) H1 (fun x H2 => tz D (σ.set i (some x)) H2) E) : tSeq (tAsg (tCall sp dvs E t) (gName i)) tz D σ H := h H (Ex.refl H) _ fun vs H1 e hR => k vs H1 e hR
theorem s_retAP (h : EvAP t σ H R) (k : ∀ vs H1, Ex H H1 → R vs H1 → sp (vs ++ dvs) H1 D.rt E) : tRet (tCall sp dvs E t) D σ H := h H (Ex.refl H) _ fun vs H1 e hR => k vs H1 e hR
end

/-! ### objects -/
def fsE (x0 x1 x2 x3 x4 x5 : V) : List (Str × V) := [("count", x0), ("samples", x1), ("variable", x2), ("first_size", x3), ("least_size", x4), ("is_uniform", x5)]
def sp_einit (C : Addr) : Sp := fun vs H Q _ => ∃ (a dx : Addr) (x0 x1 x2 x3 x4 x5 : V), vs = [.ref a, x0, x1, x2, x3, x4, x5] ∧ H a = some (.ins C dx []) ∧ ∀ H', FrO a H H' → H' a = some (.ins C dx (fsE x0 x1 x2 x3 x4 x5)) → Q .non H'
theorem ok_Earlier_init (T : TX K mg) : FnOk P w K mg base CX0 1 T.a_Earlier_init T.d_Earlier_init ["self", "count", "samples", "variable", "first_size", "least_size", "is_uniform"] (sp_einit T.C_Earlier) := by
  refine T.F_Earlier_init.ok sc_Earlier_init (fun vs H Q E h => by obtain ⟨a, dx, x0, x1, x2, x3, x4, x5, rfl, _⟩ := h; rfl) (fun cdv A outer s H vs Q E hr h => ?_)
  obtain ⟨a, dx, x0, x1, x2, x3, x4, x5, rfl, ha, k⟩ := h
  refine ⟨_, (pss_cons (ps_fld (pv 0) (pv 1) rfl)
      (pss_cons (ps_fld (pv 0) (pv 2) rfl)
      (pss_cons (ps_fld (pv 0) (pv 3) rfl)
      (pss_cons (ps_fld (pv 0) (pv 4) rfl)
      (pss_cons (ps_fld (pv 0) (pv 5) rfl)
      (pss_one (ps_fld (pv 0) (pv 6) rfl))))))), ?_⟩
  refine q_fld T.cl_Earlier T.n_Earlier_count (v := x0) (ev_var rfl) (ev_var rfl) ha (by decide) fun H1 e1 => ?_
  refine q_fld T.cl_Earlier T.n_Earlier_samples (v := x1) (ev_var rfl) (ev_var rfl) upd_same (Nat.le_of_ble_eq_true rfl) fun H2 e2 => ?_
  refine q_fld T.cl_Earlier T.n_Earlier_variable (v := x2) (ev_var rfl) (ev_var rfl) upd_same (Nat.le_of_ble_eq_true rfl) fun H3 e3 => ?_
  refine q_fld T.cl_Earlier T.n_Earlier_first_size (v := x3) (ev_var rfl) (ev_var rfl) upd_same (Nat.le_of_ble_eq_true rfl) fun H4 e4 => ?_
  refine q_fld T.cl_Earlier T.n_Earlier_least_size (v := x4) (ev_var rfl) (ev_var rfl) upd_same (Nat.le_of_ble_eq_true rfl) fun H5 e5 => ?_
  refine s_fld T.cl_Earlier T.n_Earlier_is_uniform (v := x5) (ev_var rfl) (ev_var rfl) upd_same (Nat.le_of_ble_eq_true rfl) fun H6 e6 => ?_
  exact k _ ((((((FrO.ex (a := a) e1).upd.trans (FrO.ex e2)).upd.trans (FrO.ex e3)).upd.trans (FrO.ex e4)).upd.trans (FrO.ex e5)).upd.trans (FrO.ex e6)).upd upd_same
theorem en_earlier {C : Addr} {σ : L2.St} {H : Hp} {t : TA} {E : XK} {x0 x1 x2 x3 x4 x5 : V} (h : EvA t σ H [x0, x1, x2, x3, x4, x5]) : EvN (tMake C (sp_einit C) [] E t) σ H fun p H' => ∃ dx, H' p = some (.ins C dx (fsE x0 x1 x2 x3 x4 x5)) := en_make h fun a dx G Q' E' eG hG k' => ⟨a, dx, x0, x1, x2, x3, x4, x5, rfl, hG, fun H' hF hA => k' H' hF ⟨dx, hA⟩⟩
def fsH (x0 x1 x2 x3 x4 x5 x6 : V) : List (Str × V) := [("variable", x0), ("block_size", x1), ("rate", x2), ("channels", x3), ("assignment", x4), ("depth", x5), ("number", x6)]
def sp_hinit (C : Addr) : Sp := fun vs H Q _ => ∃ (a dx : Addr) (x0 x1 x2 x3 x4 x5 x6 : V), vs = [.ref a, x0, x1, x2, x3, x4, x5, x6] ∧ H a = some (.ins C dx []) ∧ ∀ H', FrO a H H' → H' a = some (.ins C dx (fsH x0 x1 x2 x3 x4 x5 x6)) → Q .non H'
theorem ok_FrameHeader_init (T : TX K mg) : FnOk P w K mg base CX0 1 T.a_FrameHeader_init T.d_FrameHeader_init ["self", "variable", "block_size", "rate", "channels", "assignment", "depth", "number"] (sp_hinit T.C_FrameHeader) := by
  refine T.F_FrameHeader_init.ok sc_FrameHeader_init (fun vs H Q E h => by obtain ⟨a, dx, x0, x1, x2, x3, x4, x5, x6, rfl, _⟩ := h; rfl) (fun cdv A outer s H vs Q E hr h => ?_)
  obtain ⟨a, dx, x0, x1, x2, x3, x4, x5, x6, rfl, ha, k⟩ := h
  refine ⟨_, (pss_cons (ps_fld (pv 0) (pv 1) rfl)
      (pss_cons (ps_fld (pv 0) (pv 2) rfl)
      (pss_cons (ps_fld (pv 0) (pv 3) rfl)
      (pss_cons (ps_fld (pv 0) (pv 4) rfl)
      (pss_cons (ps_fld (pv 0) (pv 5) rfl)
      (pss_cons (ps_fld (pv 0) (pv 6) rfl)
      (pss_one (ps_fld (pv 0) (pv 7) rfl)))))))), ?_⟩
  refine q_fld T.cl_FrameHeader T.n_FrameHeader_variable (v := x0) (ev_var rfl) (ev_var rfl) ha (by decide) fun H1 e1 => ?_
  refine q_fld T.cl_FrameHeader T.n_FrameHeader_block_size (v := x1) (ev_var rfl) (ev_var rfl) upd_same (Nat.le_of_ble_eq_true rfl) fun H2 e2 => ?_
  refine q_fld T.cl_FrameHeader T.n_FrameHeader_rate (v := x2) (ev_var rfl) (ev_var rfl) upd_same (Nat.le_of_ble_eq_true rfl) fun H3 e3 => ?_
  refine q_fld T.cl_FrameHeader T.n_FrameHeader_channels (v := x3) (ev_var rfl) (ev_var rfl) upd_same (Nat.le_of_ble_eq_true rfl) fun H4 e4 => ?_
  refine q_fld T.cl_FrameHeader T.n_FrameHeader_assignment (v := x4) (ev_var rfl) (ev_var rfl) upd_same (Nat.le_of_ble_eq_true rfl) fun H5 e5 => ?_
  refine q_fld T.cl_FrameHeader T.n_FrameHeader_depth (v := x5) (ev_var rfl) (ev_var rfl) upd_same (Nat.le_of_ble_eq_true rfl) fun H6 e6 => ?_
  refine s_fld T.cl_FrameHeader T.n_FrameHeader_number (v := x6) (ev_var rfl) (ev_var rfl) upd_same (Nat.le_of_ble_eq_true rfl) fun H7 e7 => ?_
  exact k _ (((((((FrO.ex (a := a) e1).upd.trans (FrO.ex e2)).upd.trans (FrO.ex e3)).upd.trans (FrO.ex e4)).upd.trans (FrO.ex e5)).upd.trans (FrO.ex e6)).upd.trans (FrO.ex e7)).upd upd_same
def fsI (x0 x1 x2 x3 x4 x5 x6 x7 x8 : V) : List (Str × V) := [("least_block", x0), ("greatest_block", x1), ("least_frame", x2), ("greatest_frame", x3), ("rate", x4), ("channel_count", x5), ("depth", x6), ("length", x7), ("digest", x8)]
def sp_sinit (C : Addr) : Sp := fun vs H Q _ => ∃ (a dx d : Addr) (x0 x1 x2 x3 x4 x5 x6 x7 : V) (l : List V), vs = [.ref a, x0, x1, x2, x3, x4, x5, x6, x7, .ref d] ∧ H a = some (.ins C dx []) ∧ H d = some (.lst l) ∧ ∀ H' q, FrO a H H' → H' a = some (.ins C dx (fsI x0 x1 x2 x3 x4 x5 x6 x7 (.ref q))) → H' q = some (.lst l) → Q .non H'
theorem ok_StreamInfo_init (T : TX K mg) : FnOk P w K mg base CX0 1 T.a_StreamInfo_init T.d_StreamInfo_init ["self", "least_block", "greatest_block", "least_frame", "greatest_frame", "rate", "channel_count", "depth", "length", "digest"] (sp_sinit T.C_StreamInfo) := by
  refine T.F_StreamInfo_init.ok sc_StreamInfo_init (fun vs H Q E h => by obtain ⟨a, dx, d, x0, x1, x2, x3, x4, x5, x6, x7, l, rfl, _⟩ := h; rfl) (fun cdv A outer s H vs Q E hr h => ?_)
  obtain ⟨a, dx, d, x0, x1, x2, x3, x4, x5, x6, x7, l, rfl, ha, hd, k⟩ := h
  refine ⟨_, (pss_cons (ps_fld (pv 0) (pv 1) rfl)
      (pss_cons (ps_fld (pv 0) (pv 2) rfl)
      (pss_cons (ps_fld (pv 0) (pv 3) rfl)
      (pss_cons (ps_fld (pv 0) (pv 4) rfl)
      (pss_cons (ps_fld (pv 0) (pv 5) rfl)
      (pss_cons (ps_fld (pv 0) (pv 6) rfl)
      (pss_cons (ps_fld (pv 0) (pv 7) rfl)
      (pss_cons (ps_fld (pv 0) (pv 8) rfl)
      (pss_one (ps_fld (pv 0) (pe_callTy (r := rListS K) call_list_of (by rfl) T.m_list PyProof.Rows.boot_list (pa_cons (pv 9) pa_nil)) rfl)))))))))), ?_⟩
  have hda : d ≠ a := by rintro rfl; rw [ha] at hd; cases hd
  refine q_fld T.cl_StreamInfo T.n_StreamInfo_least_block (v := x0) (ev_var rfl) (ev_var rfl) ha (by decide) fun H1 e1 => ?_
  refine q_fld T.cl_StreamInfo T.n_StreamInfo_greatest_block (v := x1) (ev_var rfl) (ev_var rfl) upd_same (Nat.le_of_ble_eq_true rfl) fun H2 e2 => ?_
  refine q_fld T.cl_StreamInfo T.n_StreamInfo_least_frame (v := x2) (ev_var rfl) (ev_var rfl) upd_same (Nat.le_of_ble_eq_true rfl) fun H3 e3 => ?_
  refine q_fld T.cl_StreamInfo T.n_StreamInfo_greatest_frame (v := x3) (ev_var rfl) (ev_var rfl) upd_same (Nat.le_of_ble_eq_true rfl) fun H4 e4 => ?_
  refine q_fld T.cl_StreamInfo T.n_StreamInfo_rate (v := x4) (ev_var rfl) (ev_var rfl) upd_same (Nat.le_of_ble_eq_true rfl) fun H5 e5 => ?_
  refine q_fld T.cl_StreamInfo T.n_StreamInfo_channel_count (v := x5) (ev_var rfl) (ev_var rfl) upd_same (Nat.le_of_ble_eq_true rfl) fun H6 e6 => ?_
  refine q_fld T.cl_StreamInfo T.n_StreamInfo_depth (v := x6) (ev_var rfl) (ev_var rfl) upd_same (Nat.le_of_ble_eq_true rfl) fun H7 e7 => ?_
  refine q_fld T.cl_StreamInfo T.n_StreamInfo_length (v := x7) (ev_var rfl) (ev_var rfl) upd_same (Nat.le_of_ble_eq_true rfl) fun H8 e8 => ?_
  have f8 := fun o => ((((((((FrO.ex (a := a) e1).upd.trans (FrO.ex e2)).upd.trans (FrO.ex e3)).upd.trans (FrO.ex e4)).upd.trans (FrO.ex e5)).upd.trans (FrO.ex e6)).upd.trans (FrO.ex e7)).upd.trans (FrO.ex e8)).upd (o := o)
  refine s_fldL (xs := l) T.cl_StreamInfo T.n_StreamInfo_digest (el_of (K := K) (Ev.s (ev_var rfl) (sq_of (f8 _ d _ hda hd)))) (fun _ _ => ev_var rfl) upd_same (Nat.le_of_ble_eq_true rfl) fun q H9 hq e9 g9 => ?_
  have hqa : q ≠ a := by rintro rfl; rw [upd_same] at hq; cases hq
  exact k _ q ((f8 _).trans (FrO.ex e9)).upd upd_same (by rw [upd_ne hqa]; exact g9)
/-! ### earlier frames -/
def hd0 (es : List Int) : Int := es.headD 0
def unif (es : List Int) : Bool := es.all fun s => decide (s = hd0 es)
def eF (es : List Int) (o : Bool) : List (Str × V) := fsE (.int (es.length : Int)) (.int es.sum) (if es.length = 0 then .non else .bl o) (if es.length = 0 then .non else .int (hd0 es)) (if es.length = 0 then .non else .int (minL es)) (.bl (unif es))
def EAt (C : Addr) (H : Hp) (p : Addr) (es : List Int) (o : Bool) : Prop := ∃ dx, H p = some (.ins C dx (eF es o))
theorem minL_snoc {es : List Int} (h : es.length ≠ 0) (s : Int) : minL (es ++ [s]) = if s < minL es then s else minL es := by
  cases es with
  | nil => exact absurd rfl h
  | cons x r =>
    show (r ++ [s]).foldl min x = if s < r.foldl min x then s else r.foldl min x
    rw [List.foldl_append]
    show min (r.foldl min x) s = _
    split <;> omega
theorem unif_snoc {es : List Int} (h : es.length ≠ 0) (s : Int) : unif (es ++ [s]) = (unif es && decide (s = hd0 es)) := by
  cases es with
  | nil => exact absurd rfl h
  | cons x r =>
    unfold unif
    rw [List.all_append]
    show (_ && (decide (s = x) && true)) = (_ && decide (s = x))
    rw [Bool.and_true]
    rfl
theorem hd0_snoc {es : List Int} (h : es.length ≠ 0) (s : Int) : hd0 (es ++ [s]) = hd0 es := by
  cases es with
  | nil => exact absurd rfl h
  | cons x r => rfl
theorem eF_one (s : Int) (o : Bool) : eF [s] o = fsE (.int 1) (.int s) (.bl o) (.int s) (.int s) (.bl true) := by
  have h1 : unif [s] = true := by unfold unif hd0; simp
  have h2 : [s].sum = s := by simp
  unfold eF
  rw [h1, h2]
  rfl
theorem eF_snoc {es : List Int} (h : es.length ≠ 0) (s : Int) (o : Bool) : eF (es ++ [s]) o = fsE (.int ((es.length : Int) + 1)) (.int (es.sum + s)) (.bl o) (.int (hd0 es)) (.int (if s < minL es then s else minL es)) (.bl (unif es && decide (s = hd0 es))) := by
  have hl : (es ++ [s]).length = es.length + 1 := by rw [List.length_append]; rfl
  have hs : (es ++ [s]).sum = es.sum + s := by rw [List.sum_append]; show _ + (s + 0) = _; rw [Int.add_zero]
  unfold eF
  rw [if_neg (by omega), if_neg (by omega), if_neg (by omega), minL_snoc h, unif_snoc h, hd0_snoc h, hs, hl]
  rfl
def sp_foll (C : Addr) : Sp := fun vs H Q _ => ∃ (a : Addr) (es : List Int) (o : Bool) (s : Int), vs = [.ref a, .bl o, .int s] ∧ EAt C H a es o ∧ ∀ p H', H p = none → Ex H H' → EAt C H' p (es ++ [s]) o → Q (.ref p) H'
theorem ok_Earlier_followed_by (T : TX K mg) : FnOk P w K mg base CX0 3 T.a_Earlier_followed_by T.d_Earlier_followed_by ["self", "variable", "size"] (sp_foll T.C_Earlier) := by
  refine T.F_Earlier_followed_by.ok sc_Earlier_followed_by (fun vs H Q E h => by obtain ⟨a, es, o, s, rfl, _⟩ := h; rfl) (fun cdv A outer s0 H vs Q E hr h => ?_)
  obtain ⟨a, es, o, s, rfl, ⟨dx, ha⟩, k⟩ := h
  refine ⟨_, (pss_cons (ps_if (pt_cmpR op_eq (pe_fld (pv 0) rfl) pe_int (nomark _)) (pss_one (ps_ret (pe_make T.M_Earlier (ok_Earlier_init T) (hr.mono (by decide)) (by rfl) T.g_Earlier T.b_Earlier_init .nil pass0 (pa_cons pe_int (pa_cons (pv 2) (pa_cons (pv 1) (pa_cons (pv 2) (pa_cons (pv 2) (pa_cons pe_bl pa_nil))))))))) pss_nil)
      (pss_one (ps_ret (pe_make T.M_Earlier (ok_Earlier_init T) (hr.mono (by decide)) (by rfl) T.g_Earlier T.b_Earlier_init .nil pass0 (pa_cons (pe_op op_add (pe_fld (pv 0) rfl) pe_int) (pa_cons (pe_op op_add (pe_fld (pv 0) rfl) (pv 2)) (pa_cons (pe_fld (pv 0) rfl) (pa_cons (pe_fld (pv 0) rfl) (pa_cons (pe_callB (call_min2 rfl) (by rfl) T.m_min PyProof.Rows.boot_min (pa_cons (pe_fld (pv 0) rfl) (pa_cons (pv 2) pa_nil))) (pa_cons (pe_and (pe_fld (pv 0) rfl) (pe_one (pe_cmpR op_eq (pv 2) (pe_fld (pv 0) rfl) (nomark _)))) pa_nil)))))))))), ?_⟩
  have fld : ∀ {σ : L2.St} {H' : Hp} {f : Str} {v : V}, NoAttr K T.C_Earlier f → σ[0]? = some (some (.ref a)) → Ex H H' → (eF es o).lookup f = some v → Ev (tFld K (tVar 0) f) σ H' v := fun hn h e hf => ev_fld T.cl_Earlier hn (ev_var h) (e _ _ ha) hf
  refine q_when (b := decide (es.length = 0)) (et_is (et_test (ev_eq (fld T.n_Earlier_count rfl (Ex.refl _) rfl) ev_c rfl)) (by simp)) (fun hb H1 e1 => ?_) (fun hb H1 e1 => ?_)
  · have hb : es = [] := List.length_eq_zero_iff.mp (of_decide_eq_true hb)
    subst hb
    refine s_retN (en_earlier (C := T.C_Earlier) (ea_cons ev_c (ea_cons (ev_var rfl) (ea_cons (ev_var rfl) (ea_cons (ev_var rfl) (ea_cons (ev_var rfl) (ea_cons ev_c ea_nil))))))) fun p H2 hp e2 ⟨dx, g⟩ => k p H2 (fresh_back e1 hp) (e1.trans e2) ⟨dx, ?_⟩
    rw [g, List.nil_append, eF_one]
  · have hb := of_decide_eq_false hb
    have hv : (eF es o).lookup ("variable" : Str) = some (.bl o) := by unfold eF; rw [if_neg hb, if_neg hb, if_neg hb]; rfl
    have hf : (eF es o).lookup ("first_size" : Str) = some (.int (hd0 es)) := by unfold eF; rw [if_neg hb, if_neg hb, if_neg hb]; rfl
    have hl : (eF es o).lookup ("least_size" : Str) = some (.int (minL es)) := by unfold eF; rw [if_neg hb, if_neg hb, if_neg hb]; rfl
    refine s_retN (en_earlier (C := T.C_Earlier) (ea_cons (ev_I0 (fld T.n_Earlier_count rfl e1 rfl) ev_c) (ea_cons (ev_I0 (fld T.n_Earlier_samples rfl e1 rfl) (ev_var rfl)) (ea_cons (fld T.n_Earlier_variable rfl e1 hv) (ea_cons (fld T.n_Earlier_first_size rfl e1 hf) (ea_cons (ev_min2 (fld T.n_Earlier_least_size rfl e1 hl) (ev_var rfl)) (ea_cons (ev_andV (b := decide (s = hd0 es)) (fld T.n_Earlier_is_uniform rfl e1 rfl) fun _ => ev_is (ev_eq (ev_var rfl) (fld T.n_Earlier_first_size rfl e1 hf) rfl) (by simp)) ea_nil))))))) fun p H2 hp e2 ⟨dx, g⟩ => k p H2 (fresh_back e1 hp) (e1.trans e2) ⟨dx, ?_⟩
    rw [g, eF_snoc hb]
def sp_nofr (C : Addr) : Sp := fun vs H Q _ => vs = [] ∧ ∀ p H', H p = none → Ex H H' → (∀ o, EAt C H' p [] o) → Q (.ref p) H'
theorem ok_no_frames (T : TX K mg) : FnOk P w K mg base CX0 3 T.a_no_frames T.d_no_frames [] (sp_nofr T.C_Earlier) := by
  refine T.F_no_frames.ok sc_no_frames (fun vs H Q E h => by obtain ⟨rfl, _⟩ := h; rfl) (fun cdv A outer s0 H vs Q E hr h => ?_)
  obtain ⟨rfl, k⟩ := h
  refine ⟨_, (pss_one (ps_ret (pe_make T.M_Earlier (ok_Earlier_init T) (hr.mono (by decide)) (by rfl) T.g_Earlier T.b_Earlier_init .nil pass0 (pa_cons pe_int (pa_cons pe_int (pa_cons pe_non (pa_cons pe_non (pa_cons pe_non (pa_cons pe_bl pa_nil))))))))), ?_⟩
  exact s_retN (en_earlier (C := T.C_Earlier) (ea_cons ev_c (ea_cons ev_c (ea_cons ev_c (ea_cons ev_c (ea_cons ev_c (ea_cons ev_c ea_nil))))))) fun p H2 hp e2 ⟨dx, g⟩ => k p H2 hp e2 fun o => ⟨dx, g⟩
/-! ### the tests of a frame -/
structure Lim where
  lo : Int
  mo : Int
  sh : Int
  fa : Int
  sp : Int
  ch : Int
  bi : Int
  ln : Int
structure Hd where
  v : Bool
  sz : Int
  sp : Int
  ch : Int
  bi : Int
  ix : Int
def IAt (C : Addr) (H : Hp) (p : Addr) (l : Lim) : Prop := ∃ dx q, H p = some (.ins C dx (fsI (.int l.lo) (.int l.mo) (.int l.sh) (.int l.fa) (.int l.sp) (.int l.ch) (.int l.bi) (.int l.ln) (.ref q)))
def HAt (C : Addr) (H : Hp) (p : Addr) (h : Hd) : Prop := ∃ dx x, H p = some (.ins C dx (fsH (.bl h.v) (.int h.sz) (.int h.sp) (.int h.ch) x (.int h.bi) (.int h.ix)))
theorem IAt.mono {C p : Addr} {H H' : Hp} {l : Lim} (h : IAt C H p l) (e : Ex H H') : IAt C H' p l := by obtain ⟨dx, q, g⟩ := h; exact ⟨dx, q, e _ _ g⟩
theorem HAt.mono {C p : Addr} {H H' : Hp} {l : Hd} (h : HAt C H p l) (e : Ex H H') : HAt C H' p l := by obtain ⟨dx, q, g⟩ := h; exact ⟨dx, q, e _ _ g⟩
theorem EAt.mono {C p : Addr} {H H' : Hp} {es : List Int} {o : Bool} (h : EAt C H p es o) (e : Ex H H') : EAt C H' p es o := by obtain ⟨dx, g⟩ := h; exact ⟨dx, e _ _ g⟩
def formB (l : Lim) (h : Hd) : Bool := decide (h.sp = l.sp) && (decide (h.ch = l.ch) && decide (h.bi = l.bi))
def sp_form (CI CH : Addr) : Sp := fun vs H Q _ => ∃ (a b : Addr) (h : Hd) (l : Lim), vs = [.ref a, .ref b] ∧ HAt CH H a h ∧ IAt CI H b l ∧ RetV (.bl (formB l h)) H Q
theorem ev_eqN {σ : L2.St} {H : Hp} {ta tb : TE} {i j : Int} (ha : Ev ta σ H (.int i)) (hb : Ev tb σ H (.int j)) : Ev (tOp rEq ta tb) σ H (.bl (decide (i = j))) := ev_is (ev_eq ha hb rfl) (by simp)
theorem ev_neN {σ : L2.St} {H : Hp} {ta tb : TE} {i j : Int} (ha : Ev ta σ H (.int i)) (hb : Ev tb σ H (.int j)) : Ev (tOp rNe ta tb) σ H (.bl (!decide (i = j))) := ev_is (ev_ne ha hb rfl) (by simp)
theorem ok_has_form (T : TX K mg) : FnOk P w K mg base CX0 1 T.a_has_form T.d_has_form ["header", "info"] (sp_form T.C_StreamInfo T.C_FrameHeader) := by
  refine T.F_has_form.ok sc_has_form (fun vs H Q E h => by obtain ⟨a, b, h, l, rfl, _⟩ := h; rfl) (fun cdv A outer s0 H vs Q E hr h => ?_)
  obtain ⟨a, b, h, l, rfl, ⟨dx, x, ha⟩, ⟨dy, q, hb⟩, k⟩ := h
  refine ⟨_, (pss_one (ps_ret (pe_and (pe_cmpR op_eq (pe_fld (pv 0) rfl) (pe_fld (pv 1) rfl) (nomark _)) (pe_and (pe_cmpR op_eq (pe_fld (pv 0) rfl) (pe_fld (pv 1) rfl) (nomark _)) (pe_one (pe_cmpR op_eq (pe_fld (pv 0) rfl) (pe_fld (pv 1) rfl) (nomark _))))))), ?_⟩
  exact s_ret (v := .bl (formB l h)) (ev_andV (ev_eqN (ev_fld T.cl_FrameHeader T.n_FrameHeader_rate (ev_var rfl) ha rfl) (ev_fld T.cl_StreamInfo T.n_StreamInfo_rate (ev_var rfl) hb rfl)) fun _ => ev_andV (ev_eqN (ev_fld T.cl_FrameHeader T.n_FrameHeader_channels (ev_var rfl) ha rfl) (ev_fld T.cl_StreamInfo T.n_StreamInfo_channel_count (ev_var rfl) hb rfl)) fun _ => ev_eqN (ev_fld T.cl_FrameHeader T.n_FrameHeader_depth (ev_var rfl) ha rfl) (ev_fld T.cl_StreamInfo T.n_StreamInfo_depth (ev_var rfl) hb rfl)) fun H1 e1 => k H1 e1
def strmB (l : Lim) (es : List Int) (o : Bool) (h : Hd) : Bool := if es.length ≠ 0 ∧ h.v ≠ o then false else formB l h
def sizeB (l : Lim) (es : List Int) (h : Hd) : Bool := if l.mo < h.sz then false else if es.length = 0 then true else if minL es < l.lo then false else (h.v || (unif es && decide (h.sz ≤ hd0 es)))
def lenB (l : Lim) (m : Int) : Bool := decide (l.sh ≤ m) && (decide (l.fa = 0) || decide (m ≤ l.fa))
def overB (l : Lim) (es : List Int) (h : Hd) : Bool := decide (0 < l.ln) && decide (l.ln < es.sum + h.sz)
def sp_three (CI CE CH : Addr) (r : Lim → List Int → Bool → Hd → Bool) : Sp := fun vs H Q _ => ∃ (a b c : Addr) (l : Lim) (es : List Int) (o : Bool) (h : Hd), vs = [.ref a, .ref b, .ref c] ∧ IAt CI H a l ∧ EAt CE H b es o ∧ HAt CH H c h ∧ RetV (.bl (r l es o h)) H Q
theorem ok_is_of_the_stream (T : TX K mg) : FnOk P w K mg base CX0 2 T.a_is_of_the_stream T.d_is_of_the_stream ["info", "earlier", "header"] (sp_three T.C_StreamInfo T.C_Earlier T.C_FrameHeader strmB) := by
  refine T.F_is_of_the_stream.ok sc_is_of_the_stream (fun vs H Q E h => by obtain ⟨a, b, c, l, es, o, h, rfl, _⟩ := h; rfl) (fun cdv A outer s0 H vs Q E hr h => ?_)
  obtain ⟨a, b, c, l, es, o, h, rfl, hI, ⟨dx, hb⟩, hH, k⟩ := h
  refine ⟨_, (pss_cons (ps_if (PW.pt (pw_and (pt_cmpR op_gt (pe_fld (pv 1) rfl) pe_int (nomark _)) (pw_and1 (pt_cmpR op_ne (pe_fld (pv 2) rfl) (pe_fld (pv 1) rfl) (nomark _))))) (pss_one (ps_ret pe_bl)) pss_nil)
      (pss_one (ps_ret (pe_call (ok_has_form T) (hr.mono (by decide)) (by rfl) T.g_has_form T.F_has_form.kp T.b_has_form .nil pass0 (pa_cons (pv 2) (pa_cons (pv 0) pa_nil)))))), ?_⟩
  have hH' := hH
  obtain ⟨dy, x, hc⟩ := hH'
  unfold strmB at k
  refine q_when (b := decide (es.length ≠ 0 ∧ h.v ≠ o)) (et_is (et_and (a := decide (es.length ≠ 0)) (b := decide (h.v ≠ o)) (et_is (et_test (ev_I0 (ev_fld T.cl_Earlier T.n_Earlier_count (ev_var rfl) hb rfl) ev_c)) (by rw [decide_eq_decide]; omega)) fun hn => ?_) (by simp)) (fun hb' H1 e1 => ?_) (fun hb' H1 e1 => ?_)
  · have hn := of_decide_eq_true hn
    have hv : (eF es o).lookup ("variable" : Str) = some (.bl o) := by unfold eF; rw [if_neg hn, if_neg hn, if_neg hn]; rfl
    exact et_is (et_test (ev_ne (ev_fld T.cl_FrameHeader T.n_FrameHeader_variable (ev_var rfl) hc rfl) (ev_fld T.cl_Earlier T.n_Earlier_variable (ev_var rfl) hb hv) rfl)) (by simp)
  · rw [if_pos (of_decide_eq_true hb')] at k
    exact s_ret (v := .bl false) ev_c fun H2 e2 => k H2 (e1.trans e2)
  · rw [if_neg (of_decide_eq_false hb')] at k
    exact s_ret (v := .bl (formB l h)) (ev_call (ea_cons (ev_var rfl) (ea_cons (ev_var rfl) ea_nil)) fun G eG Q' q' _ => ⟨c, a, h, l, rfl, hH.mono (e1.trans eG), hI.mono (e1.trans eG), q'⟩) fun H2 e2 => k H2 (e1.trans e2)
theorem ok_size_allowed (T : TX K mg) : FnOk P w K mg base CX0 1 T.a_size_allowed T.d_size_allowed ["info", "earlier", "header"] (sp_three T.C_StreamInfo T.C_Earlier T.C_FrameHeader fun l es _ h => sizeB l es h) := by
  refine T.F_size_allowed.ok sc_size_allowed (fun vs H Q E h => by obtain ⟨a, b, c, l, es, o, h, rfl, _⟩ := h; rfl) (fun cdv A outer s0 H vs Q E hr h => ?_)
  obtain ⟨a, b, c, l, es, o, h, rfl, ⟨dz, q, ha⟩, ⟨dx, hb⟩, ⟨dy, x, hc⟩, k⟩ := h
  refine ⟨_, (pss_cons (ps_if (pt_cmpR op_gt (pe_fld (pv 2) rfl) (pe_fld (pv 0) rfl) (nomark _)) (pss_one (ps_ret pe_bl)) pss_nil)
      (pss_cons (ps_if (pt_cmpR op_eq (pe_fld (pv 1) rfl) pe_int (nomark _)) (pss_one (ps_ret pe_bl)) pss_nil)
      (pss_cons (ps_if (pt_cmpR op_lt (pe_fld (pv 1) rfl) (pe_fld (pv 0) rfl) (nomark _)) (pss_one (ps_ret pe_bl)) pss_nil)
      (pss_one (ps_ret (pe_or (pe_fld (pv 2) rfl) (pe_one (pe_and (pe_fld (pv 1) rfl) (pe_one (pe_cmpR op_le (pe_fld (pv 2) rfl) (pe_fld (pv 1) rfl) (nomark _))))))))))), ?_⟩
  have k : RetV (.bl (sizeB l es h)) H Q := k
  unfold sizeB at k
  have fI : ∀ {H' : Hp} {f : Str} {v : V}, NoAttr K T.C_StreamInfo f → Ex H H' → (fsI (.int l.lo) (.int l.mo) (.int l.sh) (.int l.fa) (.int l.sp) (.int l.ch) (.int l.bi) (.int l.ln) (.ref q)).lookup f = some v → Ev (tFld K (tVar 0) f) [some (.ref a), some (.ref b), some (.ref c)] H' v := fun hn e hf => ev_fld T.cl_StreamInfo hn (ev_var rfl) (e _ _ ha) hf
  have fE : ∀ {H' : Hp} {f : Str} {v : V}, NoAttr K T.C_Earlier f → Ex H H' → (eF es o).lookup f = some v → Ev (tFld K (tVar 1) f) [some (.ref a), some (.ref b), some (.ref c)] H' v := fun hn e hf => ev_fld T.cl_Earlier hn (ev_var rfl) (e _ _ hb) hf
  have fH : ∀ {H' : Hp} {f : Str} {v : V}, NoAttr K T.C_FrameHeader f → Ex H H' → (fsH (.bl h.v) (.int h.sz) (.int h.sp) (.int h.ch) x (.int h.bi) (.int h.ix)).lookup f = some v → Ev (tFld K (tVar 2) f) [some (.ref a), some (.ref b), some (.ref c)] H' v := fun hn e hf => ev_fld T.cl_FrameHeader hn (ev_var rfl) (e _ _ hc) hf
  refine q_when (b := decide (l.mo < h.sz)) (et_test (ev_I0 (fH T.n_FrameHeader_block_size (Ex.refl _) rfl) (fI T.n_StreamInfo_greatest_block (Ex.refl _) rfl))) (fun hb1 H1 e1 => ?_) (fun hb1 H1 e1 => ?_)
  · rw [if_pos (of_decide_eq_true hb1)] at k
    exact s_ret (v := .bl false) ev_c fun H2 e2 => k H2 (e1.trans e2)
  rw [if_neg (of_decide_eq_false hb1)] at k
  refine q_when (b := decide (es.length = 0)) (et_is (et_test (ev_eqN (fE T.n_Earlier_count e1 rfl) ev_c)) (by rw [decide_eq_decide]; omega)) (fun hb2 H2 e2 => ?_) (fun hb2 H2 e2 => ?_)
  · rw [if_pos (of_decide_eq_true hb2)] at k
    exact s_ret (v := .bl true) ev_c fun H3 e3 => k H3 ((e1.trans e2).trans e3)
  have hn := of_decide_eq_false hb2
  rw [if_neg hn] at k
  have hf : (eF es o).lookup ("first_size" : Str) = some (.int (hd0 es)) := by unfold eF; rw [if_neg hn, if_neg hn, if_neg hn]; rfl
  have hl : (eF es o).lookup ("least_size" : Str) = some (.int (minL es)) := by unfold eF; rw [if_neg hn, if_neg hn, if_neg hn]; rfl
  have e12 := e1.trans e2
  refine q_when (b := decide (minL es < l.lo)) (et_test (ev_I0 (fE T.n_Earlier_least_size e12 hl) (fI T.n_StreamInfo_least_block e12 rfl))) (fun hb3 H3 e3 => ?_) (fun hb3 H3 e3 => ?_)
  · rw [if_pos (of_decide_eq_true hb3)] at k
    exact s_ret (v := .bl false) ev_c fun H4 e4 => k H4 (e12.trans (e3.trans e4))
  · rw [if_neg (of_decide_eq_false hb3)] at k
    have e13 := e12.trans e3
    exact s_ret (v := .bl (h.v || (unif es && decide (h.sz ≤ hd0 es)))) (ev_orV (fH T.n_FrameHeader_variable e13 rfl) fun _ => ev_andV (fE T.n_Earlier_is_uniform e13 rfl) fun _ => ev_I0 (fH T.n_FrameHeader_block_size e13 rfl) (fE T.n_Earlier_first_size e13 hf)) fun H4 e4 => k H4 (e13.trans e4)
def sp_lenal (CI : Addr) : Sp := fun vs H Q _ => ∃ (a : Addr) (l : Lim) (m : Int), vs = [.ref a, .int m] ∧ IAt CI H a l ∧ RetV (.bl (lenB l m)) H Q
theorem ok_length_allowed (T : TX K mg) : FnOk P w K mg base CX0 1 T.a_length_allowed T.d_length_allowed ["info", "length"] (sp_lenal T.C_StreamInfo) := by
  refine T.F_length_allowed.ok sc_length_allowed (fun vs H Q E h => by obtain ⟨a, l, m, rfl, _⟩ := h; rfl) (fun cdv A outer s0 H vs Q E hr h => ?_)
  obtain ⟨a, l, m, rfl, ⟨dz, q, ha⟩, k⟩ := h
  refine ⟨_, (pss_one (ps_ret (pe_and (pe_cmpR op_ge (pv 1) (pe_fld (pv 0) rfl) (nomark _)) (pe_one (pe_or (pe_cmpR op_eq (pe_fld (pv 0) rfl) pe_int (nomark _)) (pe_one (pe_cmpR op_le (pv 1) (pe_fld (pv 0) rfl) (nomark _)))))))), ?_⟩
  exact s_ret (v := .bl (lenB l m)) (ev_andV (ev_I0 (ev_var rfl) (ev_fld T.cl_StreamInfo T.n_StreamInfo_least_frame (ev_var rfl) ha rfl)) fun _ => ev_orV (ev_eqN (ev_fld T.cl_StreamInfo T.n_StreamInfo_greatest_frame (ev_var rfl) ha rfl) ev_c) fun _ => ev_I0 (ev_var rfl) (ev_fld T.cl_StreamInfo T.n_StreamInfo_greatest_frame (ev_var rfl) ha rfl)) fun H1 e1 => k H1 e1
def dueN (v : Bool) (es : List Int) : Int := if v = true then es.sum else (es.length : Int)
def badB (l : Lim) (es : List Int) (o : Bool) (h : Hd) (m : Int) : Bool := !strmB l es o h || (!sizeB l es h || (!lenB l m || overB l es h))
def faultV (l : Lim) (es : List Int) (o : Bool) (h : Hd) (m : Int) : V := if h.ix ≠ dueN h.v es then .str "OutOfOrder" else if badB l es o h m = true then .str "Disagreement" else .non
def sp_fault (CI CE CH : Addr) : Sp := fun vs H Q _ => ∃ (a b c : Addr) (l : Lim) (es : List Int) (o : Bool) (h : Hd) (m : Int), vs = [.ref a, .ref b, .ref c, .int m] ∧ IAt CI H a l ∧ EAt CE H b es o ∧ HAt CH H c h ∧ RetV (faultV l es o h m) H Q
theorem ok_fault_behind (T : TX K mg) : FnOk P w K mg base CX0 3 T.a_fault_behind T.d_fault_behind ["info", "earlier", "header", "length"] (sp_fault T.C_StreamInfo T.C_Earlier T.C_FrameHeader) := by
  refine T.F_fault_behind.ok sc_fault_behind (fun vs H Q E h => by obtain ⟨a, b, c, l, es, o, h, m, rfl, _⟩ := h; rfl) (fun cdv A outer s0 H vs Q E hr h => ?_)
  obtain ⟨a, b, c, l, es, o, h, m, rfl, hI, hE, hH, k⟩ := h
  refine ⟨_, (pss_cons (ps_if (pt_cmpR op_ne (pe_fld (pv 2) rfl) (pe_ifExp (pt_val (pe_fld (pv 2) rfl)) (pe_fld (pv 1) rfl) (pe_fld (pv 1) rfl)) (nomark _)) (pss_one (ps_ret pe_str)) pss_nil)
      (pss_cons (ps_if (PW.pt (pw_or (pt_not (pt_val (pe_call (ok_is_of_the_stream T) (hr.mono (by decide)) (by rfl) T.g_is_of_the_stream T.F_is_of_the_stream.kp T.b_is_of_the_stream .nil pass0 (pa_cons (pv 0) (pa_cons (pv 1) (pa_cons (pv 2) pa_nil)))))) (pw_or (pt_not (pt_val (pe_call (ok_size_allowed T) (hr.mono (by decide)) (by rfl) T.g_size_allowed T.F_size_allowed.kp T.b_size_allowed .nil pass0 (pa_cons (pv 0) (pa_cons (pv 1) (pa_cons (pv 2) pa_nil)))))) (pw_or (pt_not (pt_val (pe_call (ok_length_allowed T) (hr.mono (by decide)) (by rfl) T.g_length_allowed T.F_length_allowed.kp T.b_length_allowed .nil pass0 (pa_cons (pv 0) (pa_cons (pv 3) pa_nil))))) (pw_or1 (pt_chain op_lt op_lt pe_int (pe_fld (pv 0) rfl) (pe_op op_add (pe_fld (pv 1) rfl) (pe_fld (pv 2) rfl)))))))) (pss_one (ps_ret pe_str)) pss_nil)
      (pss_one (ps_ret pe_non)))), ?_⟩
  obtain ⟨dz, q, ha⟩ := id hI
  obtain ⟨dx, hb⟩ := id hE
  obtain ⟨dy, x, hc⟩ := id hH
  unfold faultV at k
  refine q_when (b := decide (h.ix ≠ dueN h.v es)) (et_is (et_test (ev_neN (j := dueN h.v es) (ev_fld T.cl_FrameHeader T.n_FrameHeader_number (ev_var rfl) hc rfl) (ev_if (b := h.v) (et_B (ev_fld T.cl_FrameHeader T.n_FrameHeader_variable (ev_var rfl) hc rfl)) (fun hv => Ev.is (ev_fld T.cl_Earlier T.n_Earlier_samples (ev_var rfl) hb rfl) (by unfold dueN; rw [if_pos hv])) (fun hv => Ev.is (ev_fld T.cl_Earlier T.n_Earlier_count (ev_var rfl) hb rfl) (by unfold dueN; rw [hv]; rfl))))) (by simp)) (fun hb1 H1 e1 => ?_) (fun hb1 H1 e1 => ?_)
  · rw [if_pos (of_decide_eq_true hb1)] at k
    exact s_ret (v := .str "OutOfOrder") ev_c fun H2 e2 => k H2 (e1.trans e2)
  rw [if_neg (of_decide_eq_false hb1)] at k
  refine q_when (b := badB l es o h m) (et_or (a := !strmB l es o h) (et_not (et_B (ev_call (z := .bl (strmB l es o h)) (ea_cons (ev_var rfl) (ea_cons (ev_var rfl) (ea_cons (ev_var rfl) ea_nil))) fun G eG Q' q' _ => ⟨a, b, c, l, es, o, h, rfl, hI.mono (e1.trans eG), hE.mono (e1.trans eG), hH.mono (e1.trans eG), q'⟩))) fun _ => et_or (a := !sizeB l es h) (et_not (et_B (ev_call (z := .bl (sizeB l es h)) (ea_cons (ev_var rfl) (ea_cons (ev_var rfl) (ea_cons (ev_var rfl) ea_nil))) fun G eG Q' q' _ => ⟨a, b, c, l, es, o, h, rfl, hI.mono (e1.trans eG), hE.mono (e1.trans eG), hH.mono (e1.trans eG), q'⟩))) fun _ => et_or (a := !lenB l m) (et_not (et_B (ev_call (z := .bl (lenB l m)) (ea_cons (ev_var rfl) (ea_cons (ev_var rfl) ea_nil)) fun G eG Q' q' _ => ⟨a, l, m, rfl, hI.mono (e1.trans eG), q'⟩))) fun _ => et_test (ev_chain ev_c (ev_fld T.cl_StreamInfo T.n_StreamInfo_length (ev_var rfl) (e1 _ _ ha) rfl) (ev_I0 (ev_fld T.cl_Earlier T.n_Earlier_samples (ev_var rfl) (e1 _ _ hb) rfl) (ev_fld T.cl_FrameHeader T.n_FrameHeader_block_size (ev_var rfl) (e1 _ _ hc) rfl)))) (fun hb2 H2 e2 => ?_) (fun hb2 H2 e2 => ?_)
  · rw [if_pos hb2] at k
    exact s_ret (v := .str "Disagreement") ev_c fun H3 e3 => k H3 ((e1.trans e2).trans e3)
  · rw [if_neg (by rw [hb2]; decide)] at k
    exact s_ret (v := .non) ev_c fun H3 e3 => k H3 ((e1.trans e2).trans e3)
def rowE (o : Bool) (es : List Int) : List (List V) := es.map fun s => [.bl o, .int s]
def sp_check (K : PySem.W.Frag) (CI CH : Addr) : Sp := fun vs H Q _ => ∃ (a b c : Addr) (ps : List Addr) (l : Lim) (es : List Int) (o : Bool) (h : Hd) (m : Int), vs = [.ref a, .ref b, .ref c, .int m] ∧ IAt CI H a l ∧ SqL K H b (ps.map V.ref) ∧ RowsAt H ps (rowE o es) ∧ HAt CH H c h ∧ RetV (faultV l es o h m) H Q
theorem take_snocI {es : List Int} {i : Nat} {s : Int} (h : es[i]? = some s) : es.take (i + 1) = es.take i ++ [s] := by rw [List.take_add_one, h]; rfl
theorem ok_check_frame (T : TX K mg) : FnOk P w K mg base CX0 4 T.a_check_frame T.d_check_frame ["info", "earlier", "header", "length"] (sp_check K T.C_StreamInfo T.C_FrameHeader) := by
  refine T.F_check_frame.ok sc_check_frame (fun vs H Q E h => by obtain ⟨a, b, c, ps, l, es, o, h, m, rfl, _⟩ := h; rfl) (fun cdv A outer s0 H vs Q E hr h => ?_)
  obtain ⟨a, b, c, ps, l, es, o, h, m, rfl, hI, hS, hR, hH, k⟩ := h
  refine ⟨_, (pss_cons (ps_set (i := 4) sc_check_frame.nd rfl (Or.inl rfl) (pe_call0 (ok_no_frames T) (hr.mono (by decide)) (by rfl) T.g_no_frames T.F_no_frames.kp T.b_no_frames .nil pass0))
      (pss_cons (ps_for PassesOwn.never rfl (pi_list (pv 1)) (pg_tup rfl (pgs_cons (pg_name (i := 5) sc_check_frame.nd rfl (Or.inl rfl)) (pgs_cons (pg_name (i := 6) sc_check_frame.nd rfl (Or.inl rfl)) pgs_nil))) (pss_one (ps_set (i := 4) sc_check_frame.nd rfl (Or.inl rfl) (pe_meth (pv 4) T.cl_Earlier T.me_Earlier_followed_by (ok_Earlier_followed_by T) (hr.mono (by decide)) T.b_Earlier_followed_by .nil pass0 (pa_cons (pv 5) (pa_cons (pv 6) pa_nil))))))
      (pss_one (ps_ret (pe_call (ok_fault_behind T) (hr.mono (by decide)) (by rfl) T.g_fault_behind T.F_fault_behind.kp T.b_fault_behind .nil pass0 (pa_cons (pv 0) (pa_cons (pv 4) (pa_cons (pv 2) (pa_cons (pv 3) pa_nil))))))))), ?_⟩
  have hpl : ps.length = es.length := by rw [hR.len]; unfold rowE; rw [List.length_map]
  refine q_asgC (vs := []) ea_nil fun H1 e1 => ⟨rfl, fun t H2 _ e2 ht => ?_⟩
  have e12 := e1.trans e2
  refine q_forL (K := K) (a := b) (ev_var rfl) (ex_l e12 hS) (fun i σ' H' => ∃ t z5 z6, σ' = [some (.ref a), some (.ref b), some (.ref c), some (.int m), some (.ref t), z5, z6] ∧ Ex H H' ∧ EAt T.C_Earlier H' t (es.take i) o) (fun H3 e3 => ⟨t, none, none, rfl, e12.trans e3, (ht o).mono e3⟩) (fun i σ' H' _ h => by obtain ⟨_, _, _, _, ex, _⟩ := h; exact ex_l ex hS) ?_ ?_
  · rintro i x σ' H3 hx ⟨t, z5, z6, rfl, ex, hE⟩
    obtain ⟨p, hp, hi, rfl⟩ := ref_at hx
    obtain ⟨f, hf, gp⟩ := hR.get i p hp
    obtain ⟨s, hs, rfl⟩ : ∃ s, es[i]? = some s ∧ f = [.bl o, .int s] := by
      unfold rowE at hf
      rw [List.getElem?_map] at hf
      cases e : es[i]? with
      | none => rw [e] at hf; cases hf
      | some s => rw [e] at hf; exact ⟨s, rfl, (Option.some.inj hf).symm⟩
    refine ⟨p, [.bl o, .int s], rfl, st_of (ex _ _ gp), rfl, .bl o, [.int s], rfl, .int s, [], rfl, rfl, ?_⟩
    obtain ⟨dx, ht⟩ := id hE
    refine mth (a := t) (fs := eF (es.take i) o) (vs := [.bl o, .int s]) (ev_var rfl) ht rfl (ea_cons (ev_var rfl) (ea_cons (ev_var rfl) ea_nil)) fun H4 e4 => ⟨t, es.take i, o, s, rfl, hE.mono e4, fun t' H5 _ e5 h5 => ⟨t', some (.bl o), some (.int s), rfl, ex.trans (e4.trans e5), ?_⟩⟩
    rw [take_snocI hs]
    exact h5
  rintro σ' H3 ⟨t, z5, z6, rfl, ex, hE⟩
  rw [List.length_map, hpl, List.take_length] at hE
  exact s_retC (vs := [.ref a, .ref t, .ref c, .int m]) (ea_cons (ev_var rfl) (ea_cons (ev_var rfl) (ea_cons (ev_var rfl) (ea_cons (ev_var rfl) ea_nil)))) fun H4 e4 => ⟨a, t, c, l, es, o, h, m, rfl, hI.mono (ex.trans e4), hE.mono e4, hH.mono (ex.trans e4), fun H5 e5 => k H5 (ex.trans (e4.trans e5))⟩

/-! ### the law's defs -/
def sp_learl (K : PySem.W.Frag) : Sp := fun vs H Q _ => ∃ (a : Addr) (ns : List Int) (o : Bool) (mo : Int), vs = [.ref a, .bl o, .int mo] ∧ SqL K H a (ns.map V.int) ∧ ns.length ≤ 63 ∧ ∀ p qs es H', H p = none → Ex H H' → H' p = some (.lst (qs.map V.ref)) → RowsAt H' qs (rowE o es) → es.length ≤ 8 → Q (.ref p) H'
theorem ok_law_earlier (T : TX K mg) : FnOk P w K mg base CX0 1 T.a_law_earlier T.d_law_earlier ["script", "varies", "most"] (sp_learl K) := by
  refine T.F_law_earlier.ok sc_law_earlier (fun vs H Q E h => by obtain ⟨a, ns, o, mo, rfl, _⟩ := h; rfl) (fun cdv A outer s0 H vs Q E hr h => ?_)
  obtain ⟨a, ns, o, mo, rfl, hS, hl, k⟩ := h
  refine ⟨_, (pss_cons (ps_set (i := 3) sc_law_earlier.nd rfl (Or.inl rfl) (pe_lst pa_nil))
      (pss_cons (ps_for PassesOwn.never rfl (pi_range2 (by rfl) T.m_range (pa_cons pe_int (pa_cons (pe_callB (call_min2 rfl) (by rfl) T.m_min PyProof.Rows.boot_min (pa_cons pe_int (pa_cons (pe_callB (r := rLenS K) call_len_seq (by rfl) T.m_len PySem.boot_len (pa_cons (pv 0) pa_nil)) pa_nil))) pa_nil))) (pg_name (i := 4) sc_law_earlier.nd rfl (Or.inl rfl)) (pss_cons (ps_set (i := 5) sc_law_earlier.nd rfl (Or.inl rfl) (pe_callTy call_int1 (by rfl) T.m_int PyProof.Rows.boot_int (pa_cons (pe_ix (r := rIxL K) ix_list (pv 0) (pv 4) (fun _ _ => rfl)) pa_nil)))
        (pss_cons (ps_set (i := 6) sc_law_earlier.nd rfl (Or.inl rfl) (pv 2))
        (pss_cons (ps_if (pt_cmpR op_eq (pe_op op_mod (pv 5) pe_int) pe_int (nomark _)) (pss_one (ps_set (i := 6) sc_law_earlier.nd rfl (Or.inl rfl) (pe_op op_add pe_int (pe_op op_mod (pe_op op_fdiv (pv 5) pe_int) pe_int)))) pss_nil)
        (pss_one (ps_expr (pe_bm PySem.F.plainAttrs_list PySem.F.slot_list_append PySem.F.type_list_append mt_append (pv 3) (pa_cons (pe_tup (pa_cons (pv 1) (pa_cons (pv 6) pa_nil))) pa_nil))))))))
      (pss_one (ps_ret (pv 3))))), ?_⟩
  refine q_asgL (xs := []) (el_lst ea_nil (by decide)) fun p H1 hp e1 g1 => ?_
  obtain ⟨n, hn⟩ : ∃ n : Int, (if (ns.length : Int) < 14 then (ns.length : Int) else 14) = n := ⟨_, rfl⟩
  have hn2 : n ≤ 14 ∧ 0 ≤ n ∧ n ≤ ns.length := by split at hn <;> omega
  refine q_forR2 (lo := 6) (n := n) (ea_cons ev_c (ea_cons (Ev.is (ev_min2 ev_c (ev_lenS (K := K) (Ev.s (ev_var rfl) (ex_l e1 hS)))) (by rw [List.length_map, hn])) ea_nil)) (by omega) (fun i σ' H' => ∃ z4 z5 z6 qs es, σ' = [some (.ref a), some (.bl o), some (.int mo), some (.ref p), z4, z5, z6] ∧ Ex H H' ∧ H' p = some (.lst (qs.map V.ref)) ∧ RowsAt H' qs (rowE o es) ∧ es.length = i) (fun H2 e2 => ⟨none, none, none, [], [], rfl, e1.trans e2, e2 _ _ g1, trivial, rfl⟩) ?_ ?_
  · rintro i σ' H2 hi ⟨z4, z5, z6, qs, es, rfl, ex, gp, hR, hle⟩
    have hx := gl_get (ns := ns) (i := 6 + i) (by omega)
    refine q_asg (v := .int (ns.getD (6 + i) 0)) (ev_int1 (ev_ixS (i := 0) (n := 6 + (i : Int)) (Ev.s (ev_var rfl) (ex_l ex hS)) (ev_var rfl) (at_of (j := 6 + i) (by omega) (at_int hx)))) fun H3 e3 => ?_
    generalize ns.getD (6 + i) 0 = c at *
    refine q_asg (ev_var rfl) fun H4 e4 => ?_
    refine q_ifAsg (b := decide (c % 4 = 1)) (v := .int (if c % 4 = 1 then 1 + c / 4 % 40 else mo)) (et_test (ev_eqN (ev_I (ev_var rfl) ev_c (by decide)) ev_c)) (fun hb => Ev.is (ev_I0 ev_c (ev_I (ev_I (ev_var rfl) ev_c ⟨by decide, by decide⟩) ev_c (by decide))) (by rw [if_pos (of_decide_eq_true hb)])) (fun hb => by rw [if_neg (of_decide_eq_false hb)]; rfl) fun H5 e5 => ?_
    generalize (if c % 4 = 1 then 1 + c / 4 % 40 else mo) = s
    have g5 := ((e3.trans e4).trans e5) _ _ gp
    have hql : qs.length ≤ 20 := by rw [hR.len]; unfold rowE; rw [List.length_map]; omega
    refine s_appU (xs := qs.map V.ref) (ys := [.bl o, .int s]) g5 (ev_var rfl) (eu_tup (ea_cons (ev_var rfl) (ea_cons (ev_var rfl) ea_nil)) (Nat.le_of_ble_eq_true rfl)) (by rw [List.length_map]; omega) fun t H6 ht e6 g6 => ⟨_, _, _, qs ++ [t], es ++ [s], rfl, Ex.mut (ex.trans ((e3.trans e4).trans (e5.trans e6))) hp, ?_, ?_, by rw [List.length_append, hle]; rfl⟩
    · rw [upd_same, List.map_append]
      rfl
    · have : rowE o (es ++ [s]) = rowE o es ++ [[.bl o, .int s]] := by unfold rowE; rw [List.map_append]; rfl
      rw [this]
      exact ((hR.ex ((e3.trans e4).trans (e5.trans e6))).snoc g6).updL (e6 _ _ g5)
  rintro σ' H2 ⟨z4, z5, z6, qs, es, rfl, ex, gp, hR, hle⟩
  exact s_ret (v := .ref p) (ev_var rfl) fun H3 e3 => k p qs es H3 hp (ex.trans e3) (e3 _ _ gp) (hR.ex e3) (by omega)
def anyB (lo : Int) (o : Bool) (es : List Int) : Bool := es.any fun s => decide (s < lo) || (!o && decide (s ≠ hd0 es))
def lawV (l : Lim) (es : List Int) (o : Bool) (h : Hd) (m : Int) (fits : Bool) : V :=
  if h.ix ≠ dueN h.v es then .str "OutOfOrder" else if es.length ≠ 0 ∧ h.v ≠ o then .str "Disagreement" else if (!fits || decide (l.mo < h.sz)) = true then .str "Disagreement" else if anyB l.lo o es = true then .str "Disagreement" else
  if es.length ≠ 0 ∧ h.v = false ∧ hd0 es < h.sz then .str "Disagreement" else if (0 < l.fa ∧ l.fa < m) ∨ (0 < l.sh ∧ m < l.sh) then .str "Disagreement" else if 0 < l.ln ∧ l.ln < es.sum + h.sz then .str "Disagreement" else .non
theorem any_min {lo : Int} {o : Bool} {es : List Int} (h0 : es.length ≠ 0) : anyB lo o es = false ↔ ¬ minL es < lo ∧ (o = false → unif es = true) := by
  obtain ⟨m1, m2⟩ := minL_is (ns := es) (by omega)
  unfold anyB unif
  rw [List.any_eq_false, List.all_eq_true]
  constructor
  · intro h
    refine ⟨fun hm => h _ m1 (by rw [decide_eq_true hm]; rfl), fun ho s hs => ?_⟩
    have := h s hs
    rw [ho] at this
    refine decide_eq_true (Classical.byContradiction fun hne => this ?_)
    rw [decide_eq_true (p := s ≠ hd0 es) hne]
    simp
  · rintro ⟨h1, h2⟩ s hs hb
    rw [Bool.or_eq_true, decide_eq_true_iff, Bool.and_eq_true, decide_eq_true_iff] at hb
    rcases hb with hb | ⟨hb, hn⟩
    · have := m2 s hs
      omega
    · have ho : o = false := by simpa using hb
      exact hn (of_decide_eq_true (h2 ho s hs))
theorem law_fault {l : Lim} {es : List Int} {o : Bool} {h : Hd} {m : Int} (h1 : 0 ≤ l.fa) (h2 : 0 ≤ l.sh) (h3 : 0 ≤ m) : lawV l es o h m (formB l h) = faultV l es o h m := by
  unfold lawV faultV
  by_cases hix : h.ix ≠ dueN h.v es
  · rw [if_pos hix, if_pos hix]
  rw [if_neg hix, if_neg hix]
  unfold badB strmB
  by_cases hs : es.length ≠ 0 ∧ h.v ≠ o
  · rw [if_pos hs, if_pos hs]
    rfl
  rw [if_neg hs, if_neg hs]
  cases hf : formB l h with
  | false => rfl
  | true =>
    unfold sizeB
    by_cases hz : l.mo < h.sz
    · rw [decide_eq_true hz, if_pos hz]
      rfl
    rw [decide_eq_false hz, if_neg hz, if_neg (by decide)]
    by_cases h0 : es.length = 0
    · have ha : anyB l.lo o es = false := by rw [List.length_eq_zero_iff.mp h0]; rfl
      rw [ha, if_neg (by decide), if_neg (fun z => z.1 h0), if_pos h0]
      show (if _ then _ else if _ then _ else _) = if (!true || (!true || (!lenB l m || overB l es h))) = true then _ else _
      unfold lenB overB
      by_cases c1 : (0 < l.fa ∧ l.fa < m) ∨ (0 < l.sh ∧ m < l.sh)
      · rw [if_pos c1, if_pos]
        simp only [Bool.or_eq_true, Bool.not_eq_true', Bool.and_eq_false_iff, Bool.or_eq_false_iff, decide_eq_false_iff_not]
        refine .inr (.inr (.inl ?_))
        rcases c1 with c1 | c1
        · exact .inr ⟨by omega, by omega⟩
        · exact .inl (by omega)
      · rw [if_neg c1]
        have : (decide (l.sh ≤ m) && (decide (l.fa = 0) || decide (m ≤ l.fa))) = true := by
          rw [Bool.and_eq_true, Bool.or_eq_true, decide_eq_true_iff, decide_eq_true_iff, decide_eq_true_iff]
          omega
        rw [this]
        by_cases c2 : 0 < l.ln ∧ l.ln < es.sum + h.sz
        · rw [if_pos c2, if_pos]
          simp [c2.1, c2.2]
        · rw [if_neg c2, if_neg]
          simp only [Bool.not_true, Bool.false_or, Bool.and_eq_true, decide_eq_true_iff]
          exact c2
    · rw [if_neg h0]
      have hvo : h.v = o := Classical.byContradiction fun z => hs ⟨h0, z⟩
      by_cases ha : anyB l.lo o es = false
      · obtain ⟨a1, a2⟩ := (any_min h0).mp ha
        rw [ha, if_neg (by decide), if_neg a1]
        by_cases hb : es.length ≠ 0 ∧ h.v = false ∧ hd0 es < h.sz
        · rw [if_pos hb, if_pos]
          have : decide (h.sz ≤ hd0 es) = false := decide_eq_false (by omega)
          rw [hb.2.1, this, Bool.and_false]
          rfl
        · rw [if_neg hb]
          have : (h.v || (unif es && decide (h.sz ≤ hd0 es))) = true := by
            cases hv : h.v with
            | true => rfl
            | false =>
              rw [a2 (hvo.symm.trans hv), decide_eq_true (Int.not_lt.mp fun z => hb ⟨h0, hv, z⟩)]
              rfl
          rw [this]
          show (if _ then _ else if _ then _ else _) = if (!true || (!true || (!lenB l m || overB l es h))) = true then _ else _
          unfold lenB overB
          by_cases c1 : (0 < l.fa ∧ l.fa < m) ∨ (0 < l.sh ∧ m < l.sh)
          · rw [if_pos c1, if_pos]
            simp only [Bool.or_eq_true, Bool.not_eq_true', Bool.and_eq_false_iff, Bool.or_eq_false_iff, decide_eq_false_iff_not]
            refine .inr (.inr (.inl ?_))
            rcases c1 with c1 | c1
            · exact .inr ⟨by omega, by omega⟩
            · exact .inl (by omega)
          · rw [if_neg c1]
            have : (decide (l.sh ≤ m) && (decide (l.fa = 0) || decide (m ≤ l.fa))) = true := by
              rw [Bool.and_eq_true, Bool.or_eq_true, decide_eq_true_iff, decide_eq_true_iff, decide_eq_true_iff]
              omega
            rw [this]
            by_cases c2 : 0 < l.ln ∧ l.ln < es.sum + h.sz
            · rw [if_pos c2, if_pos]
              simp [c2.1, c2.2]
            · rw [if_neg c2, if_neg]
              simp only [Bool.not_true, Bool.false_or, Bool.and_eq_true, decide_eq_true_iff]
              exact c2
      · have ha : anyB l.lo o es = true := by simpa using ha
        rw [ha, if_pos rfl, if_pos]
        by_cases hm : minL es < l.lo
        · rw [if_pos hm]
          rfl
        · rw [if_neg hm]
          have hu : ¬ (o = false → unif es = true) := fun z => by
            have := (any_min (lo := l.lo) h0).mpr ⟨hm, z⟩
            rw [ha] at this
            cases this
          have ho : o = false := Classical.byContradiction fun z => hu fun y => absurd y z
          have hun : unif es = false := by
            cases hq : unif es with
            | false => rfl
            | true => exact absurd (fun _ => hq) hu
          rw [hvo, ho, hun]
          rfl
def sp_ldue (K : PySem.W.Frag) : Sp := fun vs H Q _ => ∃ (a b c : Addr) (ps : List Addr) (l : Lim) (es : List Int) (o : Bool) (h : Hd) (m : Int) (fits : Bool), vs = [.ref a, .ref b, .ref c] ∧ H a = some (.tup [.int l.lo, .int l.mo, .int l.sh, .int l.fa, .int l.ln]) ∧ SqL K H b (ps.map V.ref) ∧ RowsAt H ps (rowE o es) ∧ H c = some (.tup [.bl h.v, .int h.sz, .int h.ix, .bl fits, .int m]) ∧ RetV (lawV l es o h m fits) H Q
theorem ok_law_due (T : TX K mg) : FnOk P w K mg base CX0 1 T.a_law_due T.d_law_due ["limits", "earlier", "drawn"] (sp_ldue K) := by
  refine T.F_law_due.ok sc_law_due (fun vs H Q E h => by obtain ⟨a, b, c, ps, l, es, o, h, m, fits, rfl, _⟩ := h; rfl) (fun cdv A outer s0 H vs Q E hr h => ?_)
  obtain ⟨a, b, c, ps, l, es, o, h, m, fits, rfl, ha, hS, hR, hc, k⟩ := h
  refine ⟨_, (pss_cons (ps_asg (pv 0) (pg_tup rfl (pgs_cons (pg_name (i := 3) sc_law_due.nd rfl (Or.inl rfl)) (pgs_cons (pg_name (i := 4) sc_law_due.nd rfl (Or.inl rfl)) (pgs_cons (pg_name (i := 5) sc_law_due.nd rfl (Or.inl rfl)) (pgs_cons (pg_name (i := 6) sc_law_due.nd rfl (Or.inl rfl)) (pgs_cons (pg_name (i := 7) sc_law_due.nd rfl (Or.inl rfl)) pgs_nil)))))))
      (pss_cons (ps_asg (pv 2) (pg_tup rfl (pgs_cons (pg_name (i := 8) sc_law_due.nd rfl (Or.inl rfl)) (pgs_cons (pg_name (i := 9) sc_law_due.nd rfl (Or.inl rfl)) (pgs_cons (pg_name (i := 10) sc_law_due.nd rfl (Or.inl rfl)) (pgs_cons (pg_name (i := 11) sc_law_due.nd rfl (Or.inl rfl)) (pgs_cons (pg_name (i := 12) sc_law_due.nd rfl (Or.inl rfl)) pgs_nil)))))))
      (pss_cons (ps_set (i := 13) sc_law_due.nd rfl (Or.inl rfl) pe_int)
      (pss_cons (ps_for PassesOwn.never rfl (pi_list (pv 1)) (pg_name (i := 14) sc_law_due.nd rfl (Or.inl rfl)) (pss_one (ps_set (i := 13) sc_law_due.nd rfl (Or.inl rfl) (pe_op op_add (pv 13) (pe_ix (r := rIxT K) ix_tup (pv 14) pe_int (fun _ _ => rfl))))))
      (pss_cons (ps_set (i := 15) sc_law_due.nd rfl (Or.inl rfl) (pe_callB (r := rLenS K) call_len_seq (by rfl) T.m_len PySem.boot_len (pa_cons (pv 1) pa_nil)))
      (pss_cons (ps_if (pt_val (pv 8)) (pss_one (ps_set (i := 15) sc_law_due.nd rfl (Or.inl rfl) (pv 13))) pss_nil)
      (pss_cons (ps_if (pt_cmpR op_ne (pv 10) (pv 15) (nomark _)) (pss_one (ps_ret pe_str)) pss_nil)
      (pss_cons (ps_if (PW.pt (pw_and (pt_cmpR op_gt (pe_callB (r := rLenS K) call_len_seq (by rfl) T.m_len PySem.boot_len (pa_cons (pv 1) pa_nil)) pe_int (nomark _)) (pw_and1 (pt_cmpR op_ne (pe_ix (r := rIxT K) ix_tup (pe_ix (r := rIxL K) ix_list (pv 1) pe_int (fun _ _ => rfl)) pe_int (fun _ _ => rfl)) (pv 8) (nomark _))))) (pss_one (ps_ret pe_str)) pss_nil)
      (pss_cons (ps_if (PW.pt (pw_or (pt_not (pt_val (pv 11))) (pw_or1 (pt_cmpR op_gt (pv 9) (pv 4) (nomark _))))) (pss_one (ps_ret pe_str)) pss_nil)
      (pss_cons (ps_for PassesOwn.never rfl (pi_list (pv 1)) (pg_name (i := 14) sc_law_due.nd rfl (Or.inl rfl)) (pss_cons (ps_if (pt_cmpR op_lt (pe_ix (r := rIxT K) ix_tup (pv 14) pe_int (fun _ _ => rfl)) (pv 3) (nomark _)) (pss_one (ps_ret pe_str)) pss_nil)
        (pss_one (ps_if (PW.pt (pw_and (pt_not (pt_val (pe_ix (r := rIxT K) ix_tup (pv 14) pe_int (fun _ _ => rfl)))) (pw_and1 (pt_cmpR op_ne (pe_ix (r := rIxT K) ix_tup (pv 14) pe_int (fun _ _ => rfl)) (pe_ix (r := rIxT K) ix_tup (pe_ix (r := rIxL K) ix_list (pv 1) pe_int (fun _ _ => rfl)) pe_int (fun _ _ => rfl)) (nomark _))))) (pss_one (ps_ret pe_str)) pss_nil))))
      (pss_cons (ps_if (PW.pt (pw_and (pt_cmpR op_gt (pe_callB (r := rLenS K) call_len_seq (by rfl) T.m_len PySem.boot_len (pa_cons (pv 1) pa_nil)) pe_int (nomark _)) (pw_and (pt_not (pt_val (pv 8))) (pw_and1 (pt_cmpR op_gt (pv 9) (pe_ix (r := rIxT K) ix_tup (pe_ix (r := rIxL K) ix_list (pv 1) pe_int (fun _ _ => rfl)) pe_int (fun _ _ => rfl)) (nomark _)))))) (pss_one (ps_ret pe_str)) pss_nil)
      (pss_cons (ps_if (PW.pt (pw_or (PW.pt (pw_and (pt_cmpR op_gt (pv 6) pe_int (nomark _)) (pw_and1 (pt_cmpR op_gt (pv 12) (pv 6) (nomark _))))) (pw_or1 (PW.pt (pw_and (pt_cmpR op_gt (pv 5) pe_int (nomark _)) (pw_and1 (pt_cmpR op_lt (pv 12) (pv 5) (nomark _)))))))) (pss_one (ps_ret pe_str)) pss_nil)
      (pss_cons (ps_if (PW.pt (pw_and (pt_cmpR op_gt (pv 7) pe_int (nomark _)) (pw_and1 (pt_cmpR op_gt (pe_op op_add (pv 13) (pv 9)) (pv 7) (nomark _))))) (pss_one (ps_ret pe_str)) pss_nil)
      (pss_one (ps_ret pe_non))))))))))))))), ?_⟩
  have hpl : ps.length = es.length := by rw [hR.len]; unfold rowE; rw [List.length_map]
  have row : ∀ {i : Nat} {p : Addr}, ps[i]? = some p → ∃ s, es[i]? = some s ∧ H p = some (.tup [.bl o, .int s]) := fun {i p} hp => by
    obtain ⟨f, hf, gp⟩ := hR.get i p hp
    unfold rowE at hf
    rw [List.getElem?_map] at hf
    cases e : es[i]? with
    | none => rw [e] at hf; cases hf
    | some s => rw [e] at hf; cases hf; exact ⟨s, rfl, gp⟩
  refine ⟨.ref a, rfl, a, _, rfl, st_of ha, rfl, _, _, rfl, _, _, rfl, _, _, rfl, _, _, rfl, _, _, rfl, rfl, ?_⟩
  refine ⟨.ref c, rfl, c, _, rfl, st_of hc, rfl, _, _, rfl, _, _, rfl, _, _, rfl, _, _, rfl, _, _, rfl, rfl, ?_⟩
  refine q_asg ev_c fun H1 e1 => ?_
  refine q_forLn (K := K) (a := b) (ev_var rfl) (ex_l e1 hS) (fun i σ' H' => ∃ z14, σ' = [some (.ref a), some (.ref b), some (.ref c), some (.int l.lo), some (.int l.mo), some (.int l.sh), some (.int l.fa), some (.int l.ln), some (.bl h.v), some (.int h.sz), some (.int h.ix), some (.bl fits), some (.int m), some (.int (es.take i).sum), z14, none] ∧ Ex H H') (fun H2 e2 => ⟨none, rfl, e1.trans e2⟩) (fun i σ' H' _ h => by obtain ⟨_, _, ex⟩ := h; exact ex_l ex hS) ?_ ?_
  · rintro i x σ' H2 hx ⟨z14, rfl, ex⟩
    obtain ⟨p, hp, hi, rfl⟩ := ref_at hx
    obtain ⟨s, hs, gp⟩ := row hp
    refine s_asg (v := .int (es.take (i + 1)).sum) (Ev.is (ev_I0 (ev_var rfl) (ev_atT (ev_var rfl) (st_of (ex _ _ gp)) ev_c (at_of (j := 1) rfl rfl))) (congrArg V.int ?_)) fun H3 e3 => ⟨_, rfl, ex.trans e3⟩
    rw [take_snocI hs, List.sum_append]
    show _ = _ + (s + 0)
    rw [Int.add_zero]
  rintro σ' H2 ⟨z14, rfl, ex⟩
  rw [List.length_map, hpl, List.take_length]
  have hlen : ∀ {σ : L2.St} {H' : Hp}, σ[1]? = some (some (.ref b)) → Ex H H' → Ev (tCB (rLenS K) (tCons (tVar 1) tNil)) σ H' (.int (es.length : Int)) := fun h e => Ev.is (ev_lenS (K := K) (Ev.s (ev_var h) (ex_l e hS))) (by rw [List.length_map, hpl])
  refine q_asg (hlen rfl ex) fun H3 e3 => ?_
  refine q_ifAsg (b := h.v) (v := .int (dueN h.v es)) (et_B (ev_var rfl)) (fun hv => Ev.is (ev_var rfl) (by unfold dueN; rw [if_pos hv])) (fun hv => by unfold dueN; rw [hv]; rfl) fun H4 e4 => ?_
  have ex4 := ex.trans (e3.trans e4)
  unfold lawV at k
  refine q_when (b := decide (h.ix ≠ dueN h.v es)) (et_is (et_test (ev_neN (ev_var rfl) (ev_var rfl))) (by simp)) (fun hb H5 e5 => ?_) (fun hb H5 e5 => ?_)
  · rw [if_pos (of_decide_eq_true hb)] at k
    exact s_ret (v := .str "OutOfOrder") ev_c fun H6 e6 => k H6 (ex4.trans (e5.trans e6))
  rw [if_neg (of_decide_eq_false hb)] at k
  have ex5 := ex4.trans e5
  have first : es.length ≠ 0 → ∃ p, ps[0]? = some p ∧ H p = some (.tup [.bl o, .int (hd0 es)]) := fun h0 => by
    have : ps[0]? = some ps[0] := List.getElem?_eq_getElem (by omega)
    obtain ⟨s, hs, gp⟩ := row this
    refine ⟨_, this, ?_⟩
    cases es with
    | nil => cases hs
    | cons x r => cases hs; exact gp
  refine q_when (b := decide (es.length ≠ 0 ∧ h.v ≠ o)) (et_is (et_and (a := decide (es.length ≠ 0)) (b := decide (h.v ≠ o)) (et_is (et_test (ev_I0 (hlen rfl ex5) ev_c)) (by rw [decide_eq_decide]; omega)) fun hn => ?_) (by simp)) (fun hb H6 e6 => ?_) (fun hb H6 e6 => ?_)
  · obtain ⟨p, hp, gp⟩ := first (of_decide_eq_true hn)
    exact et_is (et_test (ev_ne (ev_atT (ev_ixS (i := 0) (n := 0) (Ev.s (ev_var rfl) (ex_l ex5 hS)) ev_c (at_of (j := 0) rfl (at_ref hp))) (st_of (ex5 _ _ gp)) ev_c (at_of (j := 0) rfl rfl)) (ev_var rfl) rfl)) (by cases o <;> cases h.v <;> rfl)
  · rw [if_pos (of_decide_eq_true hb)] at k
    exact s_ret (v := .str "Disagreement") ev_c fun H7 e7 => k H7 (ex5.trans (e6.trans e7))
  rw [if_neg (of_decide_eq_false hb)] at k
  have ex6 := ex5.trans e6
  refine q_when (b := !fits || decide (l.mo < h.sz)) (et_or (et_not (et_B (ev_var rfl))) fun _ => et_test (ev_I0 (ev_var rfl) (ev_var rfl))) (fun hb H7 e7 => ?_) (fun hb H7 e7 => ?_)
  · rw [if_pos hb] at k
    exact s_ret (v := .str "Disagreement") ev_c fun H8 e8 => k H8 (ex6.trans (e7.trans e8))
  rw [if_neg (by rw [hb]; decide)] at k
  have ex7 := ex6.trans e7
  refine q_forLn (K := K) (a := b) (ev_var rfl) (ex_l ex7 hS) (fun i σ' H' => ∃ z14, σ' = [some (.ref a), some (.ref b), some (.ref c), some (.int l.lo), some (.int l.mo), some (.int l.sh), some (.int l.fa), some (.int l.ln), some (.bl h.v), some (.int h.sz), some (.int h.ix), some (.bl fits), some (.int m), some (.int es.sum), z14, some (.int (dueN h.v es))] ∧ Ex H H' ∧ ∀ s ∈ es.take i, (decide (s < l.lo) || (!o && decide (s ≠ hd0 es))) = false) (fun H8 e8 => ⟨z14, rfl, ex7.trans e8, fun s hs => by cases hs⟩) (fun i σ' H' _ h => by obtain ⟨_, _, ex, _⟩ := h; exact ex_l ex hS) ?_ ?_
  · rintro i x σ' H8 hx ⟨z14, rfl, ex8, hall⟩
    obtain ⟨p, hp, hi, rfl⟩ := ref_at hx
    obtain ⟨s, hs, gp⟩ := row hp
    have hbad : (decide (s < l.lo) || (!o && decide (s ≠ hd0 es))) = true → anyB l.lo o es = true := fun z => List.any_eq_true.mpr ⟨s, List.mem_of_getElem? hs, z⟩
    refine q_when (b := decide (s < l.lo)) (et_test (ev_I0 (ev_atT (ev_var rfl) (st_of (ex8 _ _ gp)) ev_c (at_of (j := 1) rfl rfl)) (ev_var rfl))) (fun hb H9 e9 => ?_) (fun hb H9 e9 => ?_)
    · rw [if_pos (hbad (by rw [hb]; rfl))] at k
      exact s_ret (v := .str "Disagreement") ev_c fun Ha ea => k Ha (ex8.trans (e9.trans ea))
    have ex9 := ex8.trans e9
    obtain ⟨q, hq, gq⟩ := first (fun z => by rw [List.length_eq_zero_iff.mp z] at hs; cases hs)
    refine s_when (b := !o && decide (s ≠ hd0 es)) (et_and (et_not (et_B (ev_atT (ev_var rfl) (st_of (ex9 _ _ gp)) ev_c (at_of (j := 0) rfl rfl)))) fun _ => et_is (et_test (ev_neN (ev_atT (ev_var rfl) (st_of (ex9 _ _ gp)) ev_c (at_of (j := 1) rfl rfl)) (ev_atT (ev_ixS (i := 0) (n := 0) (Ev.s (ev_var rfl) (ex_l ex9 hS)) ev_c (at_of (j := 0) rfl (at_ref hq))) (st_of (ex9 _ _ gq)) ev_c (at_of (j := 1) rfl rfl)))) (by simp)) (fun hb2 Ha ea => ?_) (fun hb2 Ha ea => ⟨_, rfl, ex9.trans ea, fun t ht => ?_⟩)
    · rw [if_pos (hbad (by rw [hb2, Bool.or_true]))] at k
      exact s_ret (v := .str "Disagreement") ev_c fun Hb eb => k Hb (ex9.trans (ea.trans eb))
    · rw [take_snocI hs] at ht
      rcases List.mem_append.mp ht with ht | ht
      · exact hall t ht
      · rw [List.mem_singleton.mp ht, hb, hb2]
        rfl
  rintro σ' H8 ⟨z14, rfl, ex8, hall⟩
  rw [List.length_map, hpl, List.take_length] at hall
  have hany : anyB l.lo o es = false := List.any_eq_false.mpr fun s hs z => by rw [hall s hs] at z; cases z
  rw [hany, if_neg (by decide)] at k
  refine q_when (b := decide (es.length ≠ 0 ∧ h.v = false ∧ hd0 es < h.sz)) (et_is (et_and (a := decide (es.length ≠ 0)) (b := !h.v && decide (hd0 es < h.sz)) (et_is (et_test (ev_I0 (hlen rfl ex8) ev_c)) (by rw [decide_eq_decide]; omega)) fun hn => ?_) (by cases h.v <;> simp)) (fun hb H9 e9 => ?_) (fun hb H9 e9 => ?_)
  · obtain ⟨p, hp, gp⟩ := first (of_decide_eq_true hn)
    exact et_and (et_not (et_B (ev_var rfl))) fun _ => et_test (ev_I0 (ev_var rfl) (ev_atT (ev_ixS (i := 0) (n := 0) (Ev.s (ev_var rfl) (ex_l ex8 hS)) ev_c (at_of (j := 0) rfl (at_ref hp))) (st_of (ex8 _ _ gp)) ev_c (at_of (j := 1) rfl rfl)))
  · rw [if_pos (of_decide_eq_true hb)] at k
    exact s_ret (v := .str "Disagreement") ev_c fun Ha ea => k Ha (ex8.trans (e9.trans ea))
  rw [if_neg (of_decide_eq_false hb)] at k
  have ex9 := ex8.trans e9
  refine q_when (b := decide ((0 < l.fa ∧ l.fa < m) ∨ (0 < l.sh ∧ m < l.sh))) (et_is (et_or (a := decide (0 < l.fa) && decide (l.fa < m)) (b := decide (0 < l.sh) && decide (m < l.sh)) (et_and (et_test (ev_I0 (ev_var rfl) ev_c)) fun _ => et_test (ev_I0 (ev_var rfl) (ev_var rfl))) fun _ => et_and (et_test (ev_I0 (ev_var rfl) ev_c)) fun _ => et_test (ev_I0 (ev_var rfl) (ev_var rfl))) (by simp)) (fun hb Ha ea => ?_) (fun hb Ha ea => ?_)
  · rw [if_pos (of_decide_eq_true hb)] at k
    exact s_ret (v := .str "Disagreement") ev_c fun Hb eb => k Hb (ex9.trans (ea.trans eb))
  rw [if_neg (of_decide_eq_false hb)] at k
  refine q_when (b := decide (0 < l.ln ∧ l.ln < es.sum + h.sz)) (et_is (et_and (a := decide (0 < l.ln)) (et_test (ev_I0 (ev_var rfl) ev_c)) fun _ => et_test (ev_I0 (ev_I0 (ev_var rfl) (ev_var rfl)) (ev_var rfl))) (by simp)) (fun hb Hb eb => ?_) (fun hb Hb eb => ?_)
  · rw [if_pos (of_decide_eq_true hb)] at k
    exact s_ret (v := .str "Disagreement") ev_c fun Hc ec => k Hc (ex9.trans (ea.trans (eb.trans ec)))
  · rw [if_neg (of_decide_eq_false hb)] at k
    exact s_ret (v := .non) ev_c fun Hc ec => k Hc (ex9.trans (ea.trans (eb.trans ec)))
/-! ### the law -/
theorem neq_str {σ : L2.St} {H : Hp} {ta tb : TE} {x : V} (ha : Ev ta σ H x) (hb : Ev tb σ H x) (hs : scal x x = true) : Ev (tOp rEq ta tb) σ H (.bl true) := ev_is (ev_eq ha hb hs) (by simp)
theorem scal_fault (l : Lim) (es : List Int) (o : Bool) (h : Hd) (m : Int) : scal (faultV l es o h m) (faultV l es o h m) = true := by
  unfold faultV
  split
  · rfl
  · split <;> rfl
def sp_law (K : PySem.W.Frag) : Sp := fun vs H Q _ => ∃ (a : Addr) (ns : List Int), vs = [.ref a] ∧ SqL K H a (ns.map V.int) ∧ ns.length ≤ 63 ∧ ∀ H', Q (.bl true) H'
theorem ok_law (T : TX K mg) : FnOk P w K mg base CX0 5 T.a_law T.d_law ["script"] (sp_law K) := by
  refine T.F_law.ok sc_law (fun vs H Q E h => by obtain ⟨a, ns, rfl, _⟩ := h; rfl) (fun cdv A outer s H vs Q E hr h => ?_)
  obtain ⟨a, ns, rfl, hS, hlen, k⟩ := h
  refine ⟨_, (pss_cons (ps_set (i := 1) sc_law.nd rfl (Or.inl rfl) (pe_call (ok_law_cell T) (hr.mono (by decide)) (by rfl) T.g_law_cell T.F_law_cell.kp T.b_law_cell .nil pass0 (pa_cons (pv 0) (pa_cons pe_int pa_nil))))
      (pss_cons (ps_set (i := 2) sc_law.nd rfl (Or.inl rfl) (pe_op op_add pe_int (pe_op op_mod (pv 1) pe_int)))
      (pss_cons (ps_set (i := 3) sc_law.nd rfl (Or.inl rfl) (pe_op op_add (pv 2) (pe_op op_mod (pe_op op_fdiv (pv 1) pe_int) pe_int)))
      (pss_cons (ps_set (i := 4) sc_law.nd rfl (Or.inl rfl) (pe_op op_mul (pe_op op_mod (pe_op op_fdiv (pv 1) pe_int) pe_int) pe_int))
      (pss_cons (ps_set (i := 5) sc_law.nd rfl (Or.inl rfl) pe_int)
      (pss_cons (ps_if (pt_cmpR op_eq (pe_op op_mod (pe_op op_fdiv (pv 1) pe_int) pe_int) pe_int (nomark _)) (pss_one (ps_set (i := 5) sc_law.nd rfl (Or.inl rfl) (pe_op op_add (pv 4) (pe_op op_mod (pe_op op_fdiv (pv 1) pe_int) pe_int)))) pss_nil)
      (pss_cons (ps_set (i := 6) sc_law.nd rfl (Or.inl rfl) (pe_cmpR op_eq (pe_op op_mod (pe_call (ok_law_cell T) (hr.mono (by decide)) (by rfl) T.g_law_cell T.F_law_cell.kp T.b_law_cell .nil pass0 (pa_cons (pv 0) (pa_cons pe_int pa_nil))) pe_int) pe_int (nomark _)))
      (pss_cons (ps_set (i := 7) sc_law.nd rfl (Or.inl rfl) (pv 6))
      (pss_cons (ps_if (pt_cmpR op_eq (pe_op op_mod (pe_op op_fdiv (pe_call (ok_law_cell T) (hr.mono (by decide)) (by rfl) T.g_law_cell T.F_law_cell.kp T.b_law_cell .nil pass0 (pa_cons (pv 0) (pa_cons pe_int pa_nil))) pe_int) pe_int) pe_int (nomark _)) (pss_one (ps_set (i := 7) sc_law.nd rfl (Or.inl rfl) (pe_not (pv 6)))) pss_nil)
      (pss_cons (ps_set (i := 8) sc_law.nd rfl (Or.inl rfl) (pe_call (ok_law_earlier T) (hr.mono (by decide)) (by rfl) T.g_law_earlier T.F_law_earlier.kp T.b_law_earlier .nil pass0 (pa_cons (pv 0) (pa_cons (pv 7) (pa_cons (pv 3) pa_nil)))))
      (pss_cons (ps_set (i := 9) sc_law.nd rfl (Or.inl rfl) (pe_callB (r := rSum K) (cr_sum rfl) (by rfl) T.m_sum PyProof.Rows.boot_sum (pa_cons (pe_lc (own := [("one", 24)]) (g := gName 24) (tt := tYes) rfl sc_law.nd (pi_list (pv 8)) (blkOk_by (N := ["script", "cell", "least", "most", "short", "far", "varies", "other", "earlier", "total", "length", "speed", "bits", "streams", "info", "turn", "index", "size", "wrong", "head", "many", "given", "actual", "due", "one", "k"]) (sc := defScope s_law) (by decide +kernel)) (fun _ _ _ _ _ => pg_name (i := 24) sc_law.nd rfl (Or.inl rfl)) (fun _ _ _ _ _ => pts_nil) (fun _ _ _ _ _ => (pe_ix (r := rIxT K) ix_tup (pv 24) pe_int (fun _ _ => rfl)))) pa_nil)))
      (pss_cons (ps_set (i := 10) sc_law.nd rfl (Or.inl rfl) pe_int)
      (pss_cons (ps_if (pt_cmpR op_gt (pe_op op_mod (pe_call (ok_law_cell T) (hr.mono (by decide)) (by rfl) T.g_law_cell T.F_law_cell.kp T.b_law_cell .nil pass0 (pa_cons (pv 0) (pa_cons pe_int pa_nil))) pe_int) pe_int (nomark _)) (pss_one (ps_set (i := 10) sc_law.nd rfl (Or.inl rfl) (pe_op op_add (pv 9) (pe_op op_mod (pe_op op_fdiv (pe_call (ok_law_cell T) (hr.mono (by decide)) (by rfl) T.g_law_cell T.F_law_cell.kp T.b_law_cell .nil pass0 (pa_cons (pv 0) (pa_cons pe_int pa_nil))) pe_int) pe_int)))) pss_nil)
      (pss_cons (ps_set (i := 11) sc_law.nd rfl (Or.inl rfl) (pe_op op_mod (pe_call (ok_law_cell T) (hr.mono (by decide)) (by rfl) T.g_law_cell T.F_law_cell.kp T.b_law_cell .nil pass0 (pa_cons (pv 0) (pa_cons pe_int pa_nil))) pe_int))
      (pss_cons (ps_set (i := 12) sc_law.nd rfl (Or.inl rfl) (pe_op op_add pe_int (pe_op op_mod (pe_call (ok_law_cell T) (hr.mono (by decide)) (by rfl) T.g_law_cell T.F_law_cell.kp T.b_law_cell .nil pass0 (pa_cons (pv 0) (pa_cons pe_int pa_nil))) pe_int)))
      (pss_cons (ps_set (i := 13) sc_law.nd rfl (Or.inl rfl) (pe_op op_add pe_int (pe_op op_mod (pe_op op_fdiv (pe_call (ok_law_cell T) (hr.mono (by decide)) (by rfl) T.g_law_cell T.F_law_cell.kp T.b_law_cell .nil pass0 (pa_cons (pv 0) (pa_cons pe_int pa_nil))) pe_int) pe_int)))
      (pss_cons (ps_set (i := 14) sc_law.nd rfl (Or.inl rfl) (pe_make T.M_StreamInfo (ok_StreamInfo_init T) (hr.mono (by decide)) (by rfl) T.g_StreamInfo T.b_StreamInfo_init .nil pass0 (pa_cons (pv 2) (pa_cons (pv 3) (pa_cons (pv 4) (pa_cons (pv 5) (pa_cons (pv 11) (pa_cons (pv 13) (pa_cons (pv 12) (pa_cons (pv 10) (pa_cons (pe_lc (own := [("k", 25)]) (g := gName 25) (tt := tYes) rfl sc_law.nd (pi_range1 (by rfl) T.m_range (pa_cons pe_int pa_nil)) (blkOk_by (N := ["script", "cell", "least", "most", "short", "far", "varies", "other", "earlier", "total", "length", "speed", "bits", "streams", "info", "turn", "index", "size", "wrong", "head", "many", "given", "actual", "due", "one", "k"]) (sc := defScope s_law) (by decide +kernel)) (fun _ _ _ _ _ => pg_name (i := 25) sc_law.nd rfl (Or.inl rfl)) (fun _ _ _ _ _ => pts_nil) (fun _ _ _ _ _ => pe_int)) pa_nil)))))))))))
      (pss_cons (ps_set (i := 15) sc_law.nd rfl (Or.inl rfl) (pe_call (ok_law_cell T) (hr.mono (by decide)) (by rfl) T.g_law_cell T.F_law_cell.kp T.b_law_cell .nil pass0 (pa_cons (pv 0) (pa_cons pe_int pa_nil))))
      (pss_cons (ps_set (i := 16) sc_law.nd rfl (Or.inl rfl) (pe_callB (r := rLenS K) call_len_seq (by rfl) T.m_len PySem.boot_len (pa_cons (pv 8) pa_nil)))
      (pss_cons (ps_if (pt_val (pv 6)) (pss_one (ps_set (i := 16) sc_law.nd rfl (Or.inl rfl) (pv 9))) pss_nil)
      (pss_cons (ps_if (pt_cmpR op_eq (pe_op op_mod (pv 15) pe_int) pe_int (nomark _)) (pss_one (ps_set (i := 16) sc_law.nd rfl (Or.inl rfl) (pe_op op_mod (pe_op op_fdiv (pv 15) pe_int) pe_int))) pss_nil)
      (pss_cons (ps_set (i := 17) sc_law.nd rfl (Or.inl rfl) (pe_op op_add pe_int (pe_op op_mod (pe_op op_fdiv (pv 15) pe_int) pe_int)))
      (pss_cons (ps_if (pt_cmpR op_eq (pe_op op_mod (pv 15) pe_int) pe_int (nomark _)) (pss_one (ps_set (i := 17) sc_law.nd rfl (Or.inl rfl) (pv 3))) pss_nil)
      (pss_cons (ps_set (i := 18) sc_law.nd rfl (Or.inl rfl) (pe_op op_mod (pe_op op_fdiv (pv 15) pe_int) pe_int))
      (pss_cons (ps_set (i := 19) sc_law.nd rfl (Or.inl rfl) (pe_makeK0 T.M_FrameHeader (ok_FrameHeader_init T) (hr.mono (by decide)) (by rfl) T.g_FrameHeader T.k1_variable_block_size_rate_channels_assignment_depth_number_FrameHeader_init pass0 (pk_cons (pv 6) (pk_cons (pv 17) (pk_cons (pe_op op_mod (pe_callTy call_int1 (by rfl) T.m_int PyProof.Rows.boot_int (pa_cons (pe_op op_add (pv 11) (pe_callTy call_int1 (by rfl) T.m_int PyProof.Rows.boot_int (pa_cons (pe_cmpR op_eq (pv 18) pe_int (nomark _)) pa_nil))) pa_nil)) pe_int) (pk_cons (pe_op op_add pe_int (pe_op op_mod (pe_callTy call_int1 (by rfl) T.m_int PyProof.Rows.boot_int (pa_cons (pe_op op_add (pe_op op_sub (pv 13) pe_int) (pe_callTy call_int1 (by rfl) T.m_int PyProof.Rows.boot_int (pa_cons (pe_cmpR op_eq (pv 18) pe_int (nomark _)) pa_nil))) pa_nil)) pe_int)) (pk_cons pe_str (pk_cons (pe_op op_add pe_int (pe_op op_mod (pe_callTy call_int1 (by rfl) T.m_int PyProof.Rows.boot_int (pa_cons (pe_op op_add (pe_op op_sub (pv 12) pe_int) (pe_callTy call_int1 (by rfl) T.m_int PyProof.Rows.boot_int (pa_cons (pe_cmpR op_eq (pv 18) pe_int (nomark _)) pa_nil))) pa_nil)) pe_int)) (pk_cons (pv 16) pk_nil)))))))))
      (pss_cons (ps_set (i := 20) sc_law.nd rfl (Or.inl rfl) (pe_op op_add pe_int (pe_op op_mod (pe_op op_fdiv (pv 15) pe_int) pe_int)))
      (pss_cons (ps_set (i := 21) sc_law.nd rfl (Or.inl rfl) (pe_callTy (r := rListS K) call_list_of (by rfl) T.m_list PyProof.Rows.boot_list (pa_cons (pv 8) pa_nil)))
      (pss_cons (ps_set (i := 22) sc_law.nd rfl (Or.inl rfl) (pe_call (ok_check_frame T) (hr.mono (by decide)) (by rfl) T.g_check_frame T.F_check_frame.kp T.b_check_frame .nil pass0 (pa_cons (pv 14) (pa_cons (pv 21) (pa_cons (pv 19) (pa_cons (pv 20) pa_nil))))))
      (pss_cons (ps_set (i := 23) sc_law.nd rfl (Or.inl rfl) (pe_call (ok_law_due T) (hr.mono (by decide)) (by rfl) T.g_law_due T.F_law_due.kp T.b_law_due .nil pass0 (pa_cons (pe_tup (pa_cons (pv 2) (pa_cons (pv 3) (pa_cons (pv 4) (pa_cons (pv 5) (pa_cons (pv 10) pa_nil)))))) (pa_cons (pv 8) (pa_cons (pe_tup (pa_cons (pv 6) (pa_cons (pv 17) (pa_cons (pv 16) (pa_cons (pe_cmpR op_notIn_seq (pv 18) (pe_tup (pa_cons pe_int (pa_cons pe_int (pa_cons pe_int pa_nil)))) (by with_unfolding_all rfl)) (pa_cons (pv 20) pa_nil)))))) pa_nil)))))
      (pss_one (ps_ret (pe_and (pe_cmpR op_eq (pv 22) (pv 23) (nomark _)) (pe_one (pe_cmpR (op_eqD (hu64 hr)) (pv 21) (pv 8) (nomark _))))))))))))))))))))))))))))))))))), ?_⟩
  have cell : ∀ (H' : Hp) (σ : L2.St) (E : XK) (i : Int), σ[0]? = some (some (.ref a)) → Ex H H' → 0 ≤ i → Ev (tCall (sp_cell K) [] E (tCons (tVar 0) (tCons (tC (.int i)) tNil))) σ H' (.int (cellI ns i)) := fun H' σ E i hσ e hi => ev_cell (ev_var hσ) (ex_l e hS) ev_c hi
  refine q_asg (cell H _ _ 0 rfl (Ex.refl _) (by decide)) fun H1 e1 => ?_
  generalize cellI ns 0 = c
  refine q_asg (ev_I0 ev_c (ev_I (ev_var rfl) ev_c (by decide))) fun H2 e2 => ?_
  have hlo : 16 ≤ 16 + c % 10 ∧ 16 + c % 10 ≤ 25 := by omega
  generalize 16 + c % 10 = lo at *
  refine q_asg (ev_I0 (ev_var rfl) (ev_I (ev_I (ev_var rfl) ev_c ⟨by decide, by decide⟩) ev_c (by decide))) fun H3 e3 => ?_
  generalize lo + c / 10 % 15 = mo at *
  refine q_asg (ev_I (ev_I (ev_I (ev_var rfl) ev_c ⟨by decide, by decide⟩) ev_c (by decide)) ev_c (.inr (by decide))) fun H4 e4 => ?_
  have hsh : 0 ≤ c / 150 % 3 * 10 := by omega
  generalize c / 150 % 3 * 10 = sh at *
  refine q_asg ev_c fun H5 e5 => ?_
  obtain ⟨fa, hfa, hfa0⟩ : ∃ fa : Int, (if c / 450 % 2 = 1 then sh + c / 900 % 40 else 0) = fa ∧ 0 ≤ fa := ⟨_, rfl, by split <;> omega⟩
  refine q_ifAsg (b := decide (c / 450 % 2 = 1)) (v := .int fa) (et_test (ev_eqN (ev_I (ev_I (ev_var rfl) ev_c ⟨by decide, by decide⟩) ev_c (by decide)) ev_c)) (fun hb => Ev.is (ev_I0 (ev_var rfl) (ev_I (ev_I (ev_var rfl) ev_c ⟨by decide, by decide⟩) ev_c (by decide))) (by rw [← hfa, if_pos (of_decide_eq_true hb)])) (fun hb => by rw [← hfa, if_neg (of_decide_eq_false hb)]; rfl) fun H6 e6 => ?_
  have e16 := ((e1.trans e2).trans (e3.trans e4)).trans (e5.trans e6)
  clear e1 e2 e3 e4 e5 e6 hfa
  show tSeq _ _ _ [some (.ref a), some (.int c), some (.int lo), some (.int mo), some (.int sh), some (.int fa), none, none, none, none, none, none, none, none, none, none, none, none, none, none, none, none, none, none, none, none] _
  refine q_asg (ev_eqN (ev_I (cell H6 _ _ 1 rfl e16 (by decide)) ev_c (by decide)) ev_c) fun H7 e7 => ?_
  generalize decide (cellI ns 1 % 2 = 1) = v at *
  refine q_asg (ev_var rfl) fun H8 e8 => ?_
  have e18 := e16.trans (e7.trans e8)
  obtain ⟨o, ho⟩ : ∃ o : Bool, (if cellI ns 1 / 2 % 7 = 2 then !v else v) = o := ⟨_, rfl⟩
  refine q_ifAsg (b := decide (cellI ns 1 / 2 % 7 = 2)) (v := .bl o) (et_test (ev_eqN (ev_I (ev_I (cell H8 _ _ 1 rfl e18 (by decide)) ev_c ⟨by decide, by decide⟩) ev_c (by decide)) ev_c)) (fun hb => Ev.is (ev_notV (ev_var rfl)) (by rw [← ho, if_pos (of_decide_eq_true hb)])) (fun hb => by rw [← ho, if_neg (of_decide_eq_false hb)]; rfl) fun H9 e9 => ?_
  clear ho
  show tSeq _ _ _ [some (.ref a), some (.int c), some (.int lo), some (.int mo), some (.int sh), some (.int fa), some (.bl v), some (.bl o), none, none, none, none, none, none, none, none, none, none, none, none, none, none, none, none, none, none] _
  have e19 := e18.trans e9
  refine q_asgC (vs := [.ref a, .bl o, .int mo]) (ea_cons (ev_var rfl) (ea_cons (ev_var rfl) (ea_cons (ev_var rfl) ea_nil))) fun Ha ea => ⟨a, ns, o, mo, rfl, ex_l (e19.trans ea) hS, hlen, fun pe qs es Hb hpe eb gpe hR hel => ?_⟩
  have e1b := e19.trans (ea.trans eb)
  clear e7 e8 e9 e16 e18 e19 ea eb
  show tSeq _ _ _ [some (.ref a), some (.int c), some (.int lo), some (.int mo), some (.int sh), some (.int fa), some (.bl v), some (.bl o), some (.ref pe), none, none, none, none, none, none, none, none, none, none, none, none, none, none, none, none, none] _
  have hql : qs.length = es.length := by rw [hR.len]; unfold rowE; rw [List.length_map]
  have row : ∀ {i : Nat} {p : Addr}, qs[i]? = some p → ∃ s, es[i]? = some s ∧ Hb p = some (.tup [.bl o, .int s]) := fun {i p} hp => by
    obtain ⟨f, hf, gp⟩ := hR.get i p hp
    unfold rowE at hf
    rw [List.getElem?_map] at hf
    cases e : es[i]? with
    | none => rw [e] at hf; cases hf
    | some s => rw [e] at hf; cases hf; exact ⟨s, rfl, gp⟩
  refine q_asg (v := .int es.sum) (ev_sum (K := K) (ns := es) (EvR.s (EvL.r (el_lcS (es.map V.int) (Ev.s (ev_var rfl) (sq_of gpe)) (by rw [List.length_map, List.length_map, hql]) (by rw [List.length_map]; omega) (fun _ => rfl) fun i x G eG hx => ?_)))) fun Hc ec => ?_
  · obtain ⟨p, hp, hi, rfl⟩ := ref_at hx
    obtain ⟨s, hs, gp⟩ := row hp
    exact ⟨_, at_int hs, ev_atT (ev_var rfl) (st_of (eG _ _ gp)) ev_c (at_of (j := 1) rfl rfl)⟩
  refine q_asg ev_c fun Hd1 ed => ?_
  have e1d := e1b.trans (ec.trans ed)
  obtain ⟨ln, hln⟩ : ∃ z : Int, (if 0 < cellI ns 2 % 3 then es.sum + cellI ns 2 / 3 % 60 else 0) = z := ⟨_, rfl⟩
  refine q_ifAsg (b := decide (0 < cellI ns 2 % 3)) (v := .int ln) (et_test (ev_I0 (ev_I (cell Hd1 _ _ 2 rfl e1d (by decide)) ev_c (by decide)) ev_c)) (fun hb => Ev.is (ev_I0 (ev_var rfl) (ev_I (ev_I (cell Hd1 _ _ 2 rfl e1d (by decide)) ev_c ⟨by decide, by decide⟩) ev_c (by decide))) (by rw [← hln, if_pos (of_decide_eq_true hb)])) (fun hb => by rw [← hln, if_neg (of_decide_eq_false hb)]; rfl) fun He ee => ?_
  clear hln
  show tSeq _ _ _ [some (.ref a), some (.int c), some (.int lo), some (.int mo), some (.int sh), some (.int fa), some (.bl v), some (.bl o), some (.ref pe), some (.int es.sum), some (.int ln), none, none, none, none, none, none, none, none, none, none, none, none, none, none, none] _
  have e1e := e1d.trans ee
  refine q_asg (ev_I (cell He _ _ 3 rfl e1e (by decide)) ev_c (by decide)) fun Hf ef => ?_
  have hspd : 0 ≤ cellI ns 3 % 1048576 ∧ cellI ns 3 % 1048576 < 1048576 := by omega
  generalize cellI ns 3 % 1048576 = spd at *
  have e1f := e1e.trans ef
  refine q_asg (ev_I0 ev_c (ev_I (cell Hf _ _ 4 rfl e1f (by decide)) ev_c (by decide))) fun Hg eg => ?_
  have hbi : 4 ≤ 4 + cellI ns 4 % 29 ∧ 4 + cellI ns 4 % 29 ≤ 32 := by omega
  generalize 4 + cellI ns 4 % 29 = bi at *
  have e1g := e1f.trans eg
  refine q_asg (ev_I0 ev_c (ev_I (ev_I (cell Hg _ _ 4 rfl e1g (by decide)) ev_c ⟨by decide, by decide⟩) ev_c (by decide))) fun Hh eh => ?_
  have hch : 1 ≤ 1 + cellI ns 4 / 29 % 8 ∧ 1 + cellI ns 4 / 29 % 8 ≤ 8 := by omega
  generalize 1 + cellI ns 4 / 29 % 8 = ch at *
  have e1h := e1g.trans eh
  have gpeh := (ec.trans (ed.trans (ee.trans (ef.trans (eg.trans eh))))) _ _ gpe
  have hRh := hR.ex (ec.trans (ed.trans (ee.trans (ef.trans (eg.trans eh)))))
  clear e1b e1d e1e e1f e1g ec ed ee ef eg eh row hpe gpe hR
  show tSeq _ _ _ [some (.ref a), some (.int c), some (.int lo), some (.int mo), some (.int sh), some (.int fa), some (.bl v), some (.bl o), some (.ref pe), some (.int es.sum), some (.int ln), some (.int spd), some (.int bi), some (.int ch), none, none, none, none, none, none, none, none, none, none, none, none] _
  obtain ⟨lm, hlm⟩ : ∃ l : Lim, (⟨lo, mo, sh, fa, spd, ch, bi, ln⟩ : Lim) = l := ⟨_, rfl⟩
  refine q_asgN (R := fun p H' => IAt T.C_StreamInfo H' p lm) (en_makeAP (ap_ev (ev_var rfl) (ap_ev (ev_var rfl) (ap_ev (ev_var rfl) (ap_ev (ev_var rfl) (ap_ev (ev_var rfl) (ap_ev (ev_var rfl) (ap_ev (ev_var rfl) (ap_ev (ev_var rfl) (ap_l (xs := (List.replicate 16 (0 : Int)).map V.int) (el_lcR _ (ea_cons ev_c ea_nil) (by decide) (by rw [List.length_map, List.length_replicate]; rfl) (by rw [List.length_map, List.length_replicate]; decide) (fun _ => rfl) fun i G eG hi => ⟨.int 0, by rw [List.length_map, List.length_replicate] at hi; rw [List.getElem?_map, List.getElem?_replicate, if_pos hi]; rfl, ev_c⟩) ap_nil))))))))) fun vs a' dx G Q' E' eG hvs hG k' => ?_) fun pi Hi hpi ei hI => ?_
  · obtain ⟨G0, eG0, r0, rfl, r1, rfl, r2, rfl, r3, rfl, r4, rfl, r5, rfl, r6, rfl, r7, rfl, pd, r8, rfl, hpd, gpd, rfl⟩ := hvs
    refine ⟨a', dx, pd, _, _, _, _, _, _, _, _, _, rfl, hG, eG0 _ _ gpd, fun H' q hF hA hq => k' H' hF ⟨dx, q, ?_⟩⟩
    rw [hA, ← hlm]
  have e1i := e1h.trans ei
  refine q_asg (cell Hi _ _ 5 rfl e1i (by decide)) fun Hj ej => ?_
  generalize cellI ns 5 = tu
  show tSeq _ _ _ [some (.ref a), some (.int c), some (.int lo), some (.int mo), some (.int sh), some (.int fa), some (.bl v), some (.bl o), some (.ref pe), some (.int es.sum), some (.int ln), some (.int spd), some (.int bi), some (.int ch), some (.ref pi), some (.int tu), none, none, none, none, none, none, none, none, none, none] _
  have gpej := (ei.trans ej) _ _ gpeh
  refine q_asg (Ev.is (ev_lenS (K := K) (Ev.s (ev_var rfl) (sq_of gpej))) (by rw [List.length_map, hql])) fun Hk ek => ?_
  refine q_ifAsg (b := v) (v := .int (dueN v es)) (et_B (ev_var rfl)) (fun hv => Ev.is (ev_var rfl) (by unfold dueN; rw [if_pos hv])) (fun hv => by unfold dueN; rw [hv]; rfl) fun Hl el => ?_
  obtain ⟨ix, hix⟩ : ∃ z : Int, (if tu % 7 = 1 then tu / 7 % 300 else dueN v es) = z := ⟨_, rfl⟩
  refine q_ifAsg (b := decide (tu % 7 = 1)) (v := .int ix) (et_test (ev_eqN (ev_I (ev_var rfl) ev_c (by decide)) ev_c)) (fun hb => Ev.is (ev_I (ev_I (ev_var rfl) ev_c ⟨by decide, by decide⟩) ev_c (by decide)) (by rw [← hix, if_pos (of_decide_eq_true hb)])) (fun hb => by rw [← hix, if_neg (of_decide_eq_false hb)]; rfl) fun Hm em => ?_
  clear hix
  show tSeq _ _ _ [some (.ref a), some (.int c), some (.int lo), some (.int mo), some (.int sh), some (.int fa), some (.bl v), some (.bl o), some (.ref pe), some (.int es.sum), some (.int ln), some (.int spd), some (.int bi), some (.int ch), some (.ref pi), some (.int tu), some (.int ix), none, none, none, none, none, none, none, none, none] _
  refine q_asg (ev_I0 ev_c (ev_I (ev_I (ev_var rfl) ev_c ⟨by decide, by decide⟩) ev_c (by decide))) fun Hn en => ?_
  obtain ⟨sz, hsz⟩ : ∃ z : Int, (if tu % 3 = 0 then mo else 1 + tu / 2100 % 40) = z := ⟨_, rfl⟩
  refine q_ifAsg (b := decide (tu % 3 = 0)) (v := .int sz) (et_test (ev_eqN (ev_I (ev_var rfl) ev_c (by decide)) ev_c)) (fun hb => Ev.is (ev_var rfl) (by rw [← hsz, if_pos (of_decide_eq_true hb)])) (fun hb => by rw [← hsz, if_neg (of_decide_eq_false hb)]; rfl) fun Ho eo => ?_
  clear hsz
  show tSeq _ _ _ [some (.ref a), some (.int c), some (.int lo), some (.int mo), some (.int sh), some (.int fa), some (.bl v), some (.bl o), some (.ref pe), some (.int es.sum), some (.int ln), some (.int spd), some (.int bi), some (.int ch), some (.ref pi), some (.int tu), some (.int ix), some (.int sz), none, none, none, none, none, none, none, none] _
  refine q_asg (ev_I (ev_I (ev_var rfl) ev_c ⟨by decide, by decide⟩) ev_c (by decide)) fun Hp' ep => ?_
  generalize tu / 84000 % 12 = wr at *
  show tSeq _ _ _ [some (.ref a), some (.int c), some (.int lo), some (.int mo), some (.int sh), some (.int fa), some (.bl v), some (.bl o), some (.ref pe), some (.int es.sum), some (.int ln), some (.int spd), some (.int bi), some (.int ch), some (.ref pi), some (.int tu), some (.int ix), some (.int sz), some (.int wr), none, none, none, none, none, none, none] _
  obtain ⟨hd, hhd⟩ : ∃ h : Hd, (⟨v, sz, (spd + (if decide (wr = 1) = true then 1 else 0)) % 1048576, 1 + (ch - 1 + (if decide (wr = 2) = true then 1 else 0)) % 8, 4 + (bi - 4 + (if decide (wr = 3) = true then 1 else 0)) % 29, ix⟩ : Hd) = h := ⟨_, rfl⟩
  refine q_asgN (R := fun p H' => HAt T.C_FrameHeader H' p hd) (en_makeK (vs := []) ea_nil (ea_cons (ev_var rfl) (ea_cons (ev_var rfl) (ea_cons (ev_I (ev_int1 (ev_I0 (ev_var rfl) (ev_intB (ev_eqN (ev_var rfl) ev_c)))) ev_c (by decide)) (ea_cons (ev_I0 ev_c (ev_I (ev_int1 (ev_I0 (ev_I0 (ev_var rfl) ev_c) (ev_intB (ev_eqN (ev_var rfl) ev_c)))) ev_c (by decide))) (ea_cons ev_c (ea_cons (ev_I0 ev_c (ev_I (ev_int1 (ev_I0 (ev_I0 (ev_var rfl) ev_c) (ev_intB (ev_eqN (ev_var rfl) ev_c)))) ev_c (by decide))) (ea_cons (ev_var rfl) ea_nil))))))) rfl rfl fun a' dx G Q' E' eG hG k' => ⟨a', dx, _, _, _, _, _, _, _, rfl, hG, fun H' hF hA => k' H' hF ⟨dx, _, by rw [hA, ← hhd]⟩⟩) fun ph Hq hph eq hH => ?_
  refine q_asg (ev_I0 ev_c (ev_I (ev_I (ev_var rfl) ev_c ⟨by decide, by decide⟩) ev_c (by decide))) fun Hr er => ?_
  have hm0 : 0 ≤ 1 + tu / 1008000 % 60 := by omega
  generalize 1 + tu / 1008000 % 60 = m at *
  have eiq := (ej.trans ek).trans ((el.trans em).trans ((en.trans eo).trans (ep.trans eq)))
  have ehr := (ei.trans eiq).trans er
  have gper := ehr _ _ gpeh
  have hRr := hRh.ex ehr
  have hIr := hI.mono (eiq.trans er)
  have hHr := hH.mono er
  clear ej ek el em en eo ep eq eiq hI hH er gpeh hRh gpej e1h e1i ei ehr
  show tSeq _ _ _ [some (.ref a), some (.int c), some (.int lo), some (.int mo), some (.int sh), some (.int fa), some (.bl v), some (.bl o), some (.ref pe), some (.int es.sum), some (.int ln), some (.int spd), some (.int bi), some (.int ch), some (.ref pi), some (.int tu), some (.int ix), some (.int sz), some (.int wr), some (.ref ph), some (.int m), none, none, none, none, none] _
  refine q_asgL (xs := qs.map V.ref) (el_of (K := K) (Ev.s (ev_var rfl) (sq_of gper))) fun pg Hs hpg es' gpg => ?_
  refine q_asgC (vs := [.ref pi, .ref pg, .ref ph, .int m]) (ea_cons (ev_var rfl) (ea_cons (ev_var rfl) (ea_cons (ev_var rfl) (ea_cons (ev_var rfl) ea_nil)))) fun Ht et => ⟨pi, pg, ph, qs, lm, es, o, hd, m, rfl, hIr.mono (es'.trans et), sq_of (et _ _ gpg), hRr.ex (es'.trans et), hHr.mono (es'.trans et), fun Hu eu => ?_⟩
  have esu := es'.trans (et.trans eu)
  show tSeq _ _ _ [some (.ref a), some (.int c), some (.int lo), some (.int mo), some (.int sh), some (.int fa), some (.bl v), some (.bl o), some (.ref pe), some (.int es.sum), some (.int ln), some (.int spd), some (.int bi), some (.int ch), some (.ref pi), some (.int tu), some (.int ix), some (.int sz), some (.int wr), some (.ref ph), some (.int m), some (.ref pg), some (faultV lm es o hd m), none, none, none] _
  have fits : (!inV (.int wr) [.int 1, .int 2, .int 3]) = formB lm hd := by
    rw [← hlm, ← hhd]
    unfold formB
    dsimp only
    by_cases h1 : wr = 1
    · subst h1
      have : decide ((spd + (if decide ((1 : Int) = 1) = true then 1 else 0)) % 1048576 = spd) = false := decide_eq_false (by rw [if_pos (by decide)]; omega)
      rw [this]
      rfl
    by_cases h2 : wr = 2
    · subst h2
      have : decide (1 + (ch - 1 + (if decide ((2 : Int) = 2) = true then 1 else 0)) % 8 = ch) = false := decide_eq_false (by rw [if_pos (by decide)]; omega)
      rw [this, Bool.false_and, Bool.and_false]
      rfl
    by_cases h3 : wr = 3
    · subst h3
      have : decide (4 + (bi - 4 + (if decide ((3 : Int) = 3) = true then 1 else 0)) % 29 = bi) = false := decide_eq_false (by rw [if_pos (by decide)]; omega)
      rw [this, Bool.and_false, Bool.and_false]
      rfl
    have e1 : inV (.int wr) [.int 1, .int 2, .int 3] = false := by
      unfold inV
      simp only [List.any_cons, List.any_nil, Bool.or_false, Bool.or_eq_false_iff]
      exact ⟨decide_eq_false (Ne.symm h1), decide_eq_false (Ne.symm h2), decide_eq_false (Ne.symm h3)⟩
    rw [e1, decide_eq_false h1, decide_eq_false h2, decide_eq_false h3, if_neg (by decide), decide_eq_true (show (spd + 0) % 1048576 = spd by omega), decide_eq_true (show 1 + (ch - 1 + 0) % 8 = ch by omega), decide_eq_true (show 4 + (bi - 4 + 0) % 29 = bi by omega)]
    rfl
  refine q_asgAP (ap_u (eu_tup (ea_cons (ev_var rfl) (ea_cons (ev_var rfl) (ea_cons (ev_var rfl) (ea_cons (ev_var rfl) (ea_cons (ev_var rfl) ea_nil))))) (Nat.le_of_ble_eq_true rfl)) (ap_ev (ev_var rfl) (ap_u (eu_tup (ea_cons (ev_var rfl) (ea_cons (ev_var rfl) (ea_cons (ev_var rfl) (ea_cons (ev_niU (K := K) (ev_var rfl) (eu_tup (ea_cons ev_c (ea_cons ev_c (ea_cons ev_c ea_nil))) (by decide)) rfl rfl) (ea_cons (ev_var rfl) ea_nil))))) (Nat.le_of_ble_eq_true rfl)) ap_nil))) fun vs Hv ev hvs => ?_
  obtain ⟨p1, r1, rfl, _, gp1, r2, rfl, p3, r3, rfl, _, gp3, rfl⟩ := hvs
  rw [fits] at gp3
  refine ⟨p1, pe, p3, qs, lm, es, o, hd, m, formB lm hd, rfl, by rw [gp1, ← hlm], sq_of ((esu.trans ev) _ _ gper), hRr.ex (esu.trans ev), by rw [gp3, ← hhd], fun Hw ew => ?_⟩
  rw [law_fault (by rw [← hlm]; exact hfa0) (by rw [← hlm]; exact hsh) hm0]
  have esw := esu.trans (ev.trans ew)
  have hfl : ∀ f ∈ rowE o es, flatR f := fun f hf => by
    obtain ⟨s, _, rfl⟩ := List.mem_map.mp hf
    intro x hx
    rcases List.mem_cons.mp hx with rfl | hx
    · exact .inr (.inl ⟨o, rfl⟩)
    · rw [List.mem_singleton.mp hx]
      exact .inl ⟨s, rfl⟩
  exact s_ret (v := .bl true) (ev_is (ev_andV (neq_str (ev_var rfl) (ev_var rfl) (scal_fault _ _ _ _ _)) fun _ => ev_eqDD (K := K) (d := .list ((rowE o es).map datR)) (EvD.of (ev_var rfl) (.lst (sq_of ((et.trans (eu.trans (ev.trans ew))) _ _ gpg)) ((hRr.ex esw).d hfl))) (EvD.of (ev_var rfl) (.lst (sq_of (esw _ _ gper)) ((hRr.ex esw).d hfl))) (shaped_rows _)) rfl) fun Hx ex => k _

end
theorem all_mk {l : PySem.W.OpenLaw} {w : World} {K : PySem.W.Frag} {h : Heap} {mg : Str → Option Value} {fa : Addr} {f1 f2 f3 f4 f5 f6 f7 f8 f9 f10 f11 f12 f13 f14 f15 C_StreamInfo C_FrameHeader C_Earlier : Addr} (X : K.In h) (G : h.Ns mainGlobals mg) (hfa : mg "law" = some (.ref fa))
    {od1 an1 : Option Addr} {sl1 : Array (Option Value)} {oc1 dc1 pm1 cd1 ct1 : Value} {kV1 : Value} {od2 an2 : Option Addr} {sl2 : Array (Option Value)} {oc2 dc2 pm2 cd2 ct2 : Value} {kV2 : Value} {od3 an3 : Option Addr} {sl3 : Array (Option Value)} {oc3 dc3 pm3 cd3 ct3 : Value} {kV3 : Value} {od4 an4 : Option Addr} {sl4 : Array (Option Value)} {oc4 dc4 pm4 cd4 ct4 : Value} {kV4 : Value} {od5 an5 : Option Addr} {sl5 : Array (Option Value)} {oc5 dc5 pm5 cd5 ct5 : Value} {kV5 : Value} {od6 an6 : Option Addr} {sl6 : Array (Option Value)} {oc6 dc6 pm6 cd6 ct6 : Value} {kV6 : Value} {od7 an7 : Option Addr} {sl7 : Array (Option Value)} {oc7 dc7 pm7 cd7 ct7 : Value} {kV7 : Value} {od8 an8 : Option Addr} {sl8 : Array (Option Value)} {oc8 dc8 pm8 cd8 ct8 : Value} {kV8 : Value} {od9 an9 : Option Addr} {sl9 : Array (Option Value)} {oc9 dc9 pm9 cd9 ct9 : Value} {kV9 : Value} {od10 an10 : Option Addr} {sl10 : Array (Option Value)} {oc10 dc10 pm10 cd10 ct10 : Value} {kV10 : Value} {od11 an11 : Option Addr} {sl11 : Array (Option Value)} {oc11 dc11 pm11 cd11 ct11 : Value} {kV11 : Value} {od12 an12 : Option Addr} {sl12 : Array (Option Value)} {oc12 dc12 pm12 cd12 ct12 : Value} {kV12 : Value} {od13 an13 : Option Addr} {sl13 : Array (Option Value)} {oc13 dc13 pm13 cd13 ct13 : Value} {kV13 : Value} {od14 an14 : Option Addr} {sl14 : Array (Option Value)} {oc14 dc14 pm14 cd14 ct14 : Value} {kV14 : Value} {od15 an15 : Option Addr} {sl15 : Array (Option Value)} {oc15 dc15 pm15 cd15 ct15 : Value} {kV15 : Value}
    (a1 : PySem.W.findIn K (.ref C_StreamInfo) "__init__" = some (some (.ref f1))) (i1 : PySem.W.isFn K (.ref f1) = true)
    (l1 : K.lookup f1 = some ⟨oc1, od1, .func (PySem.W.fnOf "__init__" "StreamInfo.__init__" (defArgs s_StreamInfo_init) (defBody s_StreamInfo_init) (defScope s_StreamInfo_init) .none kV1 dc1 pm1 an1 cd1 ct1), sl1⟩) (c1 : PySem.W.codeIn K cd1 "StreamInfo.__init__" = true) (k1 : PySem.W.keepIn K (.ref f1) = true)
    (a2 : PySem.W.findIn K (.ref C_FrameHeader) "__init__" = some (some (.ref f2))) (i2 : PySem.W.isFn K (.ref f2) = true)
    (l2 : K.lookup f2 = some ⟨oc2, od2, .func (PySem.W.fnOf "__init__" "FrameHeader.__init__" (defArgs s_FrameHeader_init) (defBody s_FrameHeader_init) (defScope s_FrameHeader_init) .none kV2 dc2 pm2 an2 cd2 ct2), sl2⟩) (c2 : PySem.W.codeIn K cd2 "FrameHeader.__init__" = true) (k2 : PySem.W.keepIn K (.ref f2) = true)
    (a3 : PySem.W.findIn K (.ref C_Earlier) "__init__" = some (some (.ref f3))) (i3 : PySem.W.isFn K (.ref f3) = true)
    (l3 : K.lookup f3 = some ⟨oc3, od3, .func (PySem.W.fnOf "__init__" "Earlier.__init__" (defArgs s_Earlier_init) (defBody s_Earlier_init) (defScope s_Earlier_init) .none kV3 dc3 pm3 an3 cd3 ct3), sl3⟩) (c3 : PySem.W.codeIn K cd3 "Earlier.__init__" = true) (k3 : PySem.W.keepIn K (.ref f3) = true)
    (a4 : PySem.W.findIn K (.ref C_Earlier) "followed_by" = some (some (.ref f4))) (i4 : PySem.W.isFn K (.ref f4) = true)
    (l4 : K.lookup f4 = some ⟨oc4, od4, .func (PySem.W.fnOf "followed_by" "Earlier.followed_by" (defArgs s_Earlier_followed_by) (defBody s_Earlier_followed_by) (defScope s_Earlier_followed_by) .none kV4 dc4 pm4 an4 cd4 ct4), sl4⟩) (c4 : PySem.W.codeIn K cd4 "Earlier.followed_by" = true) (k4 : PySem.W.keepIn K (.ref f4) = true)
    (a5 : PySem.W.nsIn K mainGlobals "no_frames" = some (some (.ref f5)))
    (l5 : K.lookup f5 = some ⟨oc5, od5, .func (PySem.W.fnOf "no_frames" "no_frames" (defArgs s_no_frames) (defBody s_no_frames) (defScope s_no_frames) .none kV5 dc5 pm5 an5 cd5 ct5), sl5⟩) (c5 : PySem.W.codeIn K cd5 "no_frames" = true) (k5 : PySem.W.keepIn K (.ref f5) = true)
    (a6 : PySem.W.nsIn K mainGlobals "has_form" = some (some (.ref f6)))
    (l6 : K.lookup f6 = some ⟨oc6, od6, .func (PySem.W.fnOf "has_form" "has_form" (defArgs s_has_form) (defBody s_has_form) (defScope s_has_form) .none kV6 dc6 pm6 an6 cd6 ct6), sl6⟩) (c6 : PySem.W.codeIn K cd6 "has_form" = true) (k6 : PySem.W.keepIn K (.ref f6) = true)
    (a7 : PySem.W.nsIn K mainGlobals "fault_behind" = some (some (.ref f7)))
    (l7 : K.lookup f7 = some ⟨oc7, od7, .func (PySem.W.fnOf "fault_behind" "fault_behind" (defArgs s_fault_behind) (defBody s_fault_behind) (defScope s_fault_behind) .none kV7 dc7 pm7 an7 cd7 ct7), sl7⟩) (c7 : PySem.W.codeIn K cd7 "fault_behind" = true) (k7 : PySem.W.keepIn K (.ref f7) = true)
    (a8 : PySem.W.nsIn K mainGlobals "_is_of_the_stream" = some (some (.ref f8)))
    (l8 : K.lookup f8 = some ⟨oc8, od8, .func (PySem.W.fnOf "_is_of_the_stream" "_is_of_the_stream" (defArgs s_is_of_the_stream) (defBody s_is_of_the_stream) (defScope s_is_of_the_stream) .none kV8 dc8 pm8 an8 cd8 ct8), sl8⟩) (c8 : PySem.W.codeIn K cd8 "_is_of_the_stream" = true) (k8 : PySem.W.keepIn K (.ref f8) = true)
    (a9 : PySem.W.nsIn K mainGlobals "_size_allowed" = some (some (.ref f9)))
    (l9 : K.lookup f9 = some ⟨oc9, od9, .func (PySem.W.fnOf "_size_allowed" "_size_allowed" (defArgs s_size_allowed) (defBody s_size_allowed) (defScope s_size_allowed) .none kV9 dc9 pm9 an9 cd9 ct9), sl9⟩) (c9 : PySem.W.codeIn K cd9 "_size_allowed" = true) (k9 : PySem.W.keepIn K (.ref f9) = true)
    (a10 : PySem.W.nsIn K mainGlobals "_length_allowed" = some (some (.ref f10)))
    (l10 : K.lookup f10 = some ⟨oc10, od10, .func (PySem.W.fnOf "_length_allowed" "_length_allowed" (defArgs s_length_allowed) (defBody s_length_allowed) (defScope s_length_allowed) .none kV10 dc10 pm10 an10 cd10 ct10), sl10⟩) (c10 : PySem.W.codeIn K cd10 "_length_allowed" = true) (k10 : PySem.W.keepIn K (.ref f10) = true)
    (a11 : PySem.W.nsIn K mainGlobals "check_frame" = some (some (.ref f11)))
    (l11 : K.lookup f11 = some ⟨oc11, od11, .func (PySem.W.fnOf "check_frame" "check_frame" (defArgs s_check_frame) (defBody s_check_frame) (defScope s_check_frame) .none kV11 dc11 pm11 an11 cd11 ct11), sl11⟩) (c11 : PySem.W.codeIn K cd11 "check_frame" = true) (k11 : PySem.W.keepIn K (.ref f11) = true)
    (a12 : PySem.W.nsIn K mainGlobals "_law_cell" = some (some (.ref f12)))
    (l12 : K.lookup f12 = some ⟨oc12, od12, .func (PySem.W.fnOf "_law_cell" "_law_cell" (defArgs s_law_cell) (defBody s_law_cell) (defScope s_law_cell) .none kV12 dc12 pm12 an12 cd12 ct12), sl12⟩) (c12 : PySem.W.codeIn K cd12 "_law_cell" = true) (k12 : PySem.W.keepIn K (.ref f12) = true)
    (a13 : PySem.W.nsIn K mainGlobals "_law_earlier" = some (some (.ref f13)))
    (l13 : K.lookup f13 = some ⟨oc13, od13, .func (PySem.W.fnOf "_law_earlier" "_law_earlier" (defArgs s_law_earlier) (defBody s_law_earlier) (defScope s_law_earlier) .none kV13 dc13 pm13 an13 cd13 ct13), sl13⟩) (c13 : PySem.W.codeIn K cd13 "_law_earlier" = true) (k13 : PySem.W.keepIn K (.ref f13) = true)
    (a14 : PySem.W.nsIn K mainGlobals "_law_due" = some (some (.ref f14)))
    (l14 : K.lookup f14 = some ⟨oc14, od14, .func (PySem.W.fnOf "_law_due" "_law_due" (defArgs s_law_due) (defBody s_law_due) (defScope s_law_due) .none kV14 dc14 pm14 an14 cd14 ct14), sl14⟩) (c14 : PySem.W.codeIn K cd14 "_law_due" = true) (k14 : PySem.W.keepIn K (.ref f14) = true)
    (a15 : PySem.W.nsIn K mainGlobals "law" = some (some (.ref f15)))
    (l15 : K.lookup f15 = some ⟨oc15, od15, .func (PySem.W.fnOf "law" "law" (defArgs s_law) (defBody s_law) (defScope s_law) .none kV15 dc15 pm15 an15 cd15 ct15), sl15⟩) (c15 : PySem.W.codeIn K cd15 "law" = true) (k15 : PySem.W.keepIn K (.ref f15) = true)
    (aC_StreamInfo : PySem.W.nsIn K mainGlobals "StreamInfo" = some (some (.ref C_StreamInfo)))
    (pg_StreamInfo : PySem.W.plainGet K C_StreamInfo Str.empty = true) (hd_StreamInfo : PySem.W.hasDictIn K C_StreamInfo = true) (po_StreamInfo : PySem.W.plainOver K C_StreamInfo = true) (sa_StreamInfo : PySem.W.findIn K (.ref C_StreamInfo) "__setattr__" = some (some (.builtin "object.__setattr__"))) (mk_StreamInfo : PySem.W.makesIn K C_StreamInfo = true) (kc_StreamInfo : PySem.W.keepIn K (.ref C_StreamInfo) = true)
    (n_StreamInfo_least_block : PySem.W.findIn K (.ref C_StreamInfo) "least_block" = some none)
    (n_StreamInfo_greatest_block : PySem.W.findIn K (.ref C_StreamInfo) "greatest_block" = some none)
    (n_StreamInfo_least_frame : PySem.W.findIn K (.ref C_StreamInfo) "least_frame" = some none)
    (n_StreamInfo_greatest_frame : PySem.W.findIn K (.ref C_StreamInfo) "greatest_frame" = some none)
    (n_StreamInfo_rate : PySem.W.findIn K (.ref C_StreamInfo) "rate" = some none)
    (n_StreamInfo_channel_count : PySem.W.findIn K (.ref C_StreamInfo) "channel_count" = some none)
    (n_StreamInfo_depth : PySem.W.findIn K (.ref C_StreamInfo) "depth" = some none)
    (n_StreamInfo_length : PySem.W.findIn K (.ref C_StreamInfo) "length" = some none)
    (n_StreamInfo_digest : PySem.W.findIn K (.ref C_StreamInfo) "digest" = some none)
    (aC_FrameHeader : PySem.W.nsIn K mainGlobals "FrameHeader" = some (some (.ref C_FrameHeader)))
    (pg_FrameHeader : PySem.W.plainGet K C_FrameHeader Str.empty = true) (hd_FrameHeader : PySem.W.hasDictIn K C_FrameHeader = true) (po_FrameHeader : PySem.W.plainOver K C_FrameHeader = true) (sa_FrameHeader : PySem.W.findIn K (.ref C_FrameHeader) "__setattr__" = some (some (.builtin "object.__setattr__"))) (mk_FrameHeader : PySem.W.makesIn K C_FrameHeader = true) (kc_FrameHeader : PySem.W.keepIn K (.ref C_FrameHeader) = true)
    (n_FrameHeader_variable : PySem.W.findIn K (.ref C_FrameHeader) "variable" = some none)
    (n_FrameHeader_block_size : PySem.W.findIn K (.ref C_FrameHeader) "block_size" = some none)
    (n_FrameHeader_rate : PySem.W.findIn K (.ref C_FrameHeader) "rate" = some none)
    (n_FrameHeader_channels : PySem.W.findIn K (.ref C_FrameHeader) "channels" = some none)
    (n_FrameHeader_assignment : PySem.W.findIn K (.ref C_FrameHeader) "assignment" = some none)
    (n_FrameHeader_depth : PySem.W.findIn K (.ref C_FrameHeader) "depth" = some none)
    (n_FrameHeader_number : PySem.W.findIn K (.ref C_FrameHeader) "number" = some none)
    (aC_Earlier : PySem.W.nsIn K mainGlobals "Earlier" = some (some (.ref C_Earlier)))
    (pg_Earlier : PySem.W.plainGet K C_Earlier Str.empty = true) (hd_Earlier : PySem.W.hasDictIn K C_Earlier = true) (po_Earlier : PySem.W.plainOver K C_Earlier = true) (sa_Earlier : PySem.W.findIn K (.ref C_Earlier) "__setattr__" = some (some (.builtin "object.__setattr__"))) (mk_Earlier : PySem.W.makesIn K C_Earlier = true) (kc_Earlier : PySem.W.keepIn K (.ref C_Earlier) = true)
    (n_Earlier_count : PySem.W.findIn K (.ref C_Earlier) "count" = some none)
    (n_Earlier_samples : PySem.W.findIn K (.ref C_Earlier) "samples" = some none)
    (n_Earlier_variable : PySem.W.findIn K (.ref C_Earlier) "variable" = some none)
    (n_Earlier_first_size : PySem.W.findIn K (.ref C_Earlier) "first_size" = some none)
    (n_Earlier_least_size : PySem.W.findIn K (.ref C_Earlier) "least_size" = some none)
    (n_Earlier_is_uniform : PySem.W.findIn K (.ref C_Earlier) "is_uniform" = some none)
    (z_list : PySem.W.nsIn K mainGlobals "list" = some none)
    (z_min : PySem.W.nsIn K mainGlobals "min" = some none)
    (z_len : PySem.W.nsIn K mainGlobals "len" = some none)
    (z_int : PySem.W.nsIn K mainGlobals "int" = some none)
    (z_range : PySem.W.nsIn K mainGlobals "range" = some none)
    (z_sum : PySem.W.nsIn K mainGlobals "sum" = some none)
    : ∃ fd : FuncData, (∀ (s : Shared) (v : Value), BindsTo s fd ⟨[v], []⟩ [("script", v)]) ∧ ∀ base : Heap, K.In base → base.Ns mainGlobals mg → FnOk l.prog w K mg base CX0 5 fa fd ["script"] (sp_law K) := by
  have e := hfa.symm.trans (PySem.W.mg_of X G a15)
  cases e
  have F1 := fun_mk (st := s_StreamInfo_init) l1 c1 k1
  have b1 := F1.binds (ps := ["self", "least_block", "greatest_block", "least_frame", "greatest_frame", "rate", "channel_count", "depth", "length", "digest"]) fun _ _ _ _ _ _ us hl => match us, hl with | [_, _, _, _, _, _, _, _, _, _], _ => rfl
  have F2 : FunD K "__init__" "FrameHeader.__init__" (defArgs s_FrameHeader_init) (defBody s_FrameHeader_init) (defScope s_FrameHeader_init) [] [] _ _ := ⟨⟨_, _, _, _, _, _, _, _, _, _, rfl, l2, c2, (.inl ⟨rfl, rfl⟩), (.inl rfl)⟩, k2⟩
  have kb1_variable_block_size_rate_channels_assignment_depth_number_2 : KBn K _ ["self", "variable", "block_size", "rate", "channels", "assignment", "depth", "number"] 1 ["variable", "block_size", "rate", "channels", "assignment", "depth", "number"] (fun us ws => us ++ ws) (fun us ws => us ++ ws) := fund_kb0 F2 1 ["variable", "block_size", "rate", "channels", "assignment", "depth", "number"] (fun h1 h2 => Vals.append h1 h2) fun kV doc pm an cdv ct us ws hu hw => match us, hu, ws, hw with | [_], _, [_, _, _, _, _, _, _], _ => rfl
  have F3 := fun_mk (st := s_Earlier_init) l3 c3 k3
  have b3 := F3.binds (ps := ["self", "count", "samples", "variable", "first_size", "least_size", "is_uniform"]) fun _ _ _ _ _ _ us hl => match us, hl with | [_, _, _, _, _, _, _], _ => rfl
  have F4 := fun_mk (st := s_Earlier_followed_by) l4 c4 k4
  have b4 := F4.binds (ps := ["self", "variable", "size"]) fun _ _ _ _ _ _ us hl => match us, hl with | [_, _, _], _ => rfl
  have F5 := fun_mk (st := s_no_frames) l5 c5 k5
  have b5 := F5.binds (ps := []) fun _ _ _ _ _ _ us hl => match us, hl with | [], _ => rfl
  have F6 := fun_mk (st := s_has_form) l6 c6 k6
  have b6 := F6.binds (ps := ["header", "info"]) fun _ _ _ _ _ _ us hl => match us, hl with | [_, _], _ => rfl
  have F7 := fun_mk (st := s_fault_behind) l7 c7 k7
  have b7 := F7.binds (ps := ["info", "earlier", "header", "length"]) fun _ _ _ _ _ _ us hl => match us, hl with | [_, _, _, _], _ => rfl
  have F8 := fun_mk (st := s_is_of_the_stream) l8 c8 k8
  have b8 := F8.binds (ps := ["info", "earlier", "header"]) fun _ _ _ _ _ _ us hl => match us, hl with | [_, _, _], _ => rfl
  have F9 := fun_mk (st := s_size_allowed) l9 c9 k9
  have b9 := F9.binds (ps := ["info", "earlier", "header"]) fun _ _ _ _ _ _ us hl => match us, hl with | [_, _, _], _ => rfl
  have F10 := fun_mk (st := s_length_allowed) l10 c10 k10
  have b10 := F10.binds (ps := ["info", "length"]) fun _ _ _ _ _ _ us hl => match us, hl with | [_, _], _ => rfl
  have F11 := fun_mk (st := s_check_frame) l11 c11 k11
  have b11 := F11.binds (ps := ["info", "earlier", "header", "length"]) fun _ _ _ _ _ _ us hl => match us, hl with | [_, _, _, _], _ => rfl
  have F12 := fun_mk (st := s_law_cell) l12 c12 k12
  have b12 := F12.binds (ps := ["script", "k"]) fun _ _ _ _ _ _ us hl => match us, hl with | [_, _], _ => rfl
  have F13 := fun_mk (st := s_law_earlier) l13 c13 k13
  have b13 := F13.binds (ps := ["script", "varies", "most"]) fun _ _ _ _ _ _ us hl => match us, hl with | [_, _, _], _ => rfl
  have F14 := fun_mk (st := s_law_due) l14 c14 k14
  have b14 := F14.binds (ps := ["limits", "earlier", "drawn"]) fun _ _ _ _ _ _ us hl => match us, hl with | [_, _, _], _ => rfl
  have F15 := fun_mk (st := s_law) l15 c15 k15
  have b15 := F15.binds (ps := ["script"]) fun _ _ _ _ _ _ us hl => match us, hl with | [_], _ => rfl
  let T : TX K mg := ⟨f1, _, F1, b1, f2, _, F2, kb1_variable_block_size_rate_channels_assignment_depth_number_2, f3, _, F3, b3, f4, _, F4, b4, f5, _, F5, b5, (PySem.W.mg_of X G a5), f6, _, F6, b6, (PySem.W.mg_of X G a6), f7, _, F7, b7, (PySem.W.mg_of X G a7), f8, _, F8, b8, (PySem.W.mg_of X G a8), f9, _, F9, b9, (PySem.W.mg_of X G a9), f10, _, F10, b10, (PySem.W.mg_of X G a10), f11, _, F11, b11, (PySem.W.mg_of X G a11), f12, _, F12, b12, (PySem.W.mg_of X G a12), f13, _, F13, b13, (PySem.W.mg_of X G a13), f14, _, F14, b14, (PySem.W.mg_of X G a14), fa, _, F15, b15, (PySem.W.mg_of X G a15), C_StreamInfo, ⟨pg_StreamInfo, hd_StreamInfo, po_StreamInfo, sa_StreamInfo⟩, (PySem.W.mg_of X G aC_StreamInfo), ⟨mk_StreamInfo, a1, i1, kc_StreamInfo⟩, n_StreamInfo_least_block, n_StreamInfo_greatest_block, n_StreamInfo_least_frame, n_StreamInfo_greatest_frame, n_StreamInfo_rate, n_StreamInfo_channel_count, n_StreamInfo_depth, n_StreamInfo_length, n_StreamInfo_digest, C_FrameHeader, ⟨pg_FrameHeader, hd_FrameHeader, po_FrameHeader, sa_FrameHeader⟩, (PySem.W.mg_of X G aC_FrameHeader), ⟨mk_FrameHeader, a2, i2, kc_FrameHeader⟩, n_FrameHeader_variable, n_FrameHeader_block_size, n_FrameHeader_rate, n_FrameHeader_channels, n_FrameHeader_assignment, n_FrameHeader_depth, n_FrameHeader_number, C_Earlier, ⟨pg_Earlier, hd_Earlier, po_Earlier, sa_Earlier⟩, (PySem.W.mg_of X G aC_Earlier), ⟨mk_Earlier, a3, i3, kc_Earlier⟩, ⟨a4, i4, k4⟩, n_Earlier_count, n_Earlier_samples, n_Earlier_variable, n_Earlier_first_size, n_Earlier_least_size, n_Earlier_is_uniform, (PySem.W.mg_none_of X G z_list), (PySem.W.mg_none_of X G z_min), (PySem.W.mg_none_of X G z_len), (PySem.W.mg_none_of X G z_int), (PySem.W.mg_none_of X G z_range), (PySem.W.mg_none_of X G z_sum)⟩
  exact ⟨_, fun s v => .of_eq rfl, fun base _ _ => ok_law T⟩
end K33
open PySem PySem.W PyProof.Rows
set_option maxRecDepth 100000 in
set_option maxHeartbeats 0 in
theorem PySem.Challenge.cw_monochord_k33_check_frame_holds : PySem.Challenge.rw_monochord_k33_check_frame.Holds := by
  w_on; o_law; k_head; (case hw => w_witness2)
  k_fill
  refine L2.walk_of (l := PySem.Challenge.rw_monochord_k33_check_frame) (n := 63) (k := 5) (x := "script") (CX := fun _ => L2.CX0) (sp := fun w => K33.sp_law _) rfl (by decide) rfl ⟨rfl, by decide, by decide⟩ (fun w h Y => PySem.W.kIn_of Y) ?F (fun _ _ a ns hl _ hS => ⟨a, ns, rfl, hS, hl, fun _ => rfl⟩) (fun _ _ _ _ _ h => h)
  case F =>
    intro w mg fa h KX G hmg
    refine' K33.all_mk KX G hmg ?a1 ?i1 ?l1 ?c1 ?k1 ?a2 ?i2 ?l2 ?c2 ?k2 ?a3 ?i3 ?l3 ?c3 ?k3 ?a4 ?i4 ?l4 ?c4 ?k4 ?a5 ?l5 ?c5 ?k5 ?a6 ?l6 ?c6 ?k6 ?a7 ?l7 ?c7 ?k7 ?a8 ?l8 ?c8 ?k8 ?a9 ?l9 ?c9 ?k9 ?a10 ?l10 ?c10 ?k10 ?a11 ?l11 ?c11 ?k11 ?a12 ?l12 ?c12 ?k12 ?a13 ?l13 ?c13 ?k13 ?a14 ?l14 ?c14 ?k14 ?a15 ?l15 ?c15 ?k15 ?aC_StreamInfo ?pg_StreamInfo ?hd_StreamInfo ?po_StreamInfo ?sa_StreamInfo ?mk_StreamInfo ?kc_StreamInfo ?n_StreamInfo_least_block ?n_StreamInfo_greatest_block ?n_StreamInfo_least_frame ?n_StreamInfo_greatest_frame ?n_StreamInfo_rate ?n_StreamInfo_channel_count ?n_StreamInfo_depth ?n_StreamInfo_length ?n_StreamInfo_digest ?aC_FrameHeader ?pg_FrameHeader ?hd_FrameHeader ?po_FrameHeader ?sa_FrameHeader ?mk_FrameHeader ?kc_FrameHeader ?n_FrameHeader_variable ?n_FrameHeader_block_size ?n_FrameHeader_rate ?n_FrameHeader_channels ?n_FrameHeader_assignment ?n_FrameHeader_depth ?n_FrameHeader_number ?aC_Earlier ?pg_Earlier ?hd_Earlier ?po_Earlier ?sa_Earlier ?mk_Earlier ?kc_Earlier ?n_Earlier_count ?n_Earlier_samples ?n_Earlier_variable ?n_Earlier_first_size ?n_Earlier_least_size ?n_Earlier_is_uniform ?z_list ?z_min ?z_len ?z_int ?z_range ?z_sum
    (case aC_StreamInfo => k_is)
    (case aC_FrameHeader => k_is)
    (case aC_Earlier => k_is)
    (case a1 => k_is)
    (case i1 => k_is)
    (case l1 => k_is)
    (case c1 => k_is)
    (case k1 => k_is)
    (case a2 => k_is)
    (case i2 => k_is)
    (case l2 => k_is)
    (case c2 => k_is)
    (case k2 => k_is)
    (case a3 => k_is)
    (case i3 => k_is)
    (case l3 => k_is)
    (case c3 => k_is)
    (case k3 => k_is)
    (case a4 => k_is)
    (case i4 => k_is)
    (case l4 => k_is)
    (case c4 => k_is)
    (case k4 => k_is)
    (case a5 => k_is)
    (case l5 => k_is)
    (case c5 => k_is)
    (case k5 => k_is)
    (case a6 => k_is)
    (case l6 => k_is)
    (case c6 => k_is)
    (case k6 => k_is)
    (case a7 => k_is)
    (case l7 => k_is)
    (case c7 => k_is)
    (case k7 => k_is)
    (case a8 => k_is)
    (case l8 => k_is)
    (case c8 => k_is)
    (case k8 => k_is)
    (case a9 => k_is)
    (case l9 => k_is)
    (case c9 => k_is)
    (case k9 => k_is)
    (case a10 => k_is)
    (case l10 => k_is)
    (case c10 => k_is)
    (case k10 => k_is)
    (case a11 => k_is)
    (case l11 => k_is)
    (case c11 => k_is)
    (case k11 => k_is)
    (case a12 => k_is)
    (case l12 => k_is)
    (case c12 => k_is)
    (case k12 => k_is)
    (case a13 => k_is)
    (case l13 => k_is)
    (case c13 => k_is)
    (case k13 => k_is)
    (case a14 => k_is)
    (case l14 => k_is)
    (case c14 => k_is)
    (case k14 => k_is)
    (case a15 => k_is)
    (case l15 => k_is)
    (case c15 => k_is)
    (case k15 => k_is)
    (case pg_StreamInfo => k_is)
    (case hd_StreamInfo => k_is)
    (case po_StreamInfo => k_is)
    (case sa_StreamInfo => k_is)
    (case mk_StreamInfo => k_is)
    (case kc_StreamInfo => k_is)
    (case n_StreamInfo_least_block => k_is)
    (case n_StreamInfo_greatest_block => k_is)
    (case n_StreamInfo_least_frame => k_is)
    (case n_StreamInfo_greatest_frame => k_is)
    (case n_StreamInfo_rate => k_is)
    (case n_StreamInfo_channel_count => k_is)
    (case n_StreamInfo_depth => k_is)
    (case n_StreamInfo_length => k_is)
    (case n_StreamInfo_digest => k_is)
    (case pg_FrameHeader => k_is)
    (case hd_FrameHeader => k_is)
    (case po_FrameHeader => k_is)
    (case sa_FrameHeader => k_is)
    (case mk_FrameHeader => k_is)
    (case kc_FrameHeader => k_is)
    (case n_FrameHeader_variable => k_is)
    (case n_FrameHeader_block_size => k_is)
    (case n_FrameHeader_rate => k_is)
    (case n_FrameHeader_channels => k_is)
    (case n_FrameHeader_assignment => k_is)
    (case n_FrameHeader_depth => k_is)
    (case n_FrameHeader_number => k_is)
    (case pg_Earlier => k_is)
    (case hd_Earlier => k_is)
    (case po_Earlier => k_is)
    (case sa_Earlier => k_is)
    (case mk_Earlier => k_is)
    (case kc_Earlier => k_is)
    (case n_Earlier_count => k_is)
    (case n_Earlier_samples => k_is)
    (case n_Earlier_variable => k_is)
    (case n_Earlier_first_size => k_is)
    (case n_Earlier_least_size => k_is)
    (case n_Earlier_is_uniform => k_is)
    (case z_list => k_is)
    (case z_min => k_is)
    (case z_len => k_is)
    (case z_int => k_is)
    (case z_range => k_is)
    (case z_sum => k_is)
