import PyProof.Rows.All
import Wide.All
import OpenK.AllK
import Wide.FinOn
import HandS.ForMost
import HandS.Steps
import HandS.Evl
import HandS.IsInst
import HandS.Defaults
import HandS.MakeKwOnly
import HandS.Wide
import HandS.Walk
import HandS.TryOnly
import HandS.Text
import PyProof.P3Eq
import HandS.OwnEq
import HandS.WideBits
import HandS.TupAny
import PySem.Challenge.RW_monochord_k50_comments
set_option Elab.async false
set_option linter.all false
set_option maxRecDepth 100000
set_option maxHeartbeats 4000000
namespace K50
open PySem PySem.Spec PyProof.Rows L2 Evl
def topS (i : Nat) : Stmt := PySem.Challenge.pw_monochord_k50_comments.main.body.getD i (.Pass ⟨0, 0, 0, 0⟩)
abbrev s_write_utf8 : Stmt := topS 6
theorem sc_write_utf8 : FnScope ["text", "data", "point"] ["text"] (defScope s_write_utf8) := ⟨rfl, rfl, rfl, by decide +kernel, rfl, by decide +kernel, by decide +kernel⟩
abbrev s_read_utf8 : Stmt := topS 7
theorem sc_read_utf8 : FnScope ["data", "start", "stop", "text", "place", "count"] ["data", "start", "stop"] (defScope s_read_utf8) := ⟨rfl, rfl, rfl, by decide +kernel, rfl, by decide +kernel, by decide +kernel⟩
abbrev s_point_count : Stmt := topS 8
theorem sc_point_count : FnScope ["point"] ["point"] (defScope s_point_count) := ⟨rfl, rfl, rfl, by decide +kernel, rfl, by decide +kernel, by decide +kernel⟩
abbrev s_least_first : Stmt := topS 9
theorem sc_least_first : FnScope ["count"] ["count"] (defScope s_least_first) := ⟨rfl, rfl, rfl, by decide +kernel, rfl, by decide +kernel, by decide +kernel⟩
abbrev s_point_bytes : Stmt := topS 10
theorem sc_point_bytes : FnScope ["point", "count", "data", "shift"] ["point"] (defScope s_point_bytes) := ⟨rfl, rfl, rfl, by decide +kernel, rfl, by decide +kernel, by decide +kernel⟩
abbrev s_count_told : Stmt := topS 11
theorem sc_count_told : FnScope ["first", "count"] ["first"] (defScope s_count_told) := ⟨rfl, rfl, rfl, by decide +kernel, rfl, by decide +kernel, by decide +kernel⟩
abbrev s_read_point : Stmt := topS 12
theorem sc_read_point : FnScope ["data", "place", "count", "point", "further"] ["data", "place", "count"] (defScope s_read_point) := ⟨rfl, rfl, rfl, by decide +kernel, rfl, by decide +kernel, by decide +kernel⟩
abbrev s_little_bytes : Stmt := topS 14
theorem sc_little_bytes : FnScope ["number", "count", "shift"] ["number", "count"] (defScope s_little_bytes) := ⟨rfl, rfl, rfl, by decide +kernel, rfl, by decide +kernel, by decide +kernel⟩
abbrev s_little_number : Stmt := topS 15
theorem sc_little_number : FnScope ["data", "place", "count", "number", "byte"] ["data", "place", "count"] (defScope s_little_number) := ⟨rfl, rfl, rfl, by decide +kernel, rfl, by decide +kernel, by decide +kernel⟩
abbrev s_check_inside : Stmt := topS 16
theorem sc_check_inside : FnScope ["place", "count", "stop"] ["place", "count", "stop"] (defScope s_check_inside) := ⟨rfl, rfl, rfl, by decide +kernel, rfl, by decide +kernel, by decide +kernel⟩
abbrev s_Comments_init : Stmt := inClass (topS 19) 0
theorem sc_Comments_init : FnScope ["self", "vendor", "entries", "name", "value"] ["self", "vendor", "entries"] (defScope s_Comments_init) := ⟨rfl, rfl, rfl, by decide +kernel, rfl, by decide +kernel, by decide +kernel⟩
abbrev s_Comments_eq : Stmt := inClass (topS 19) 3
theorem sc_Comments_eq : FnScope ["self", "other"] ["self", "other"] (defScope s_Comments_eq) := ⟨rfl, rfl, rfl, by decide +kernel, rfl, by decide +kernel, by decide +kernel⟩
abbrev s_read_comments : Stmt := topS 20
theorem sc_read_comments : FnScope ["data", "start", "stop", "place", "vendor", "count", "entries", "_", "behind"] ["data", "start", "stop"] (defScope s_read_comments) := ⟨rfl, rfl, rfl, by decide +kernel, rfl, by decide +kernel, by decide +kernel⟩
abbrev s_write_comments : Stmt := topS 21
theorem sc_write_comments : FnScope ["comments", "vendor", "data", "name", "value", "entry"] ["comments"] (defScope s_write_comments) := ⟨rfl, rfl, rfl, by decide +kernel, rfl, by decide +kernel, by decide +kernel⟩
abbrev s_read_length : Stmt := topS 22
theorem sc_read_length : FnScope ["data", "place", "stop", "length"] ["data", "place", "stop"] (defScope s_read_length) := ⟨rfl, rfl, rfl, by decide +kernel, rfl, by decide +kernel, by decide +kernel⟩
abbrev s_read_entry : Stmt := topS 23
theorem sc_read_entry : FnScope ["data", "place", "stop", "start", "content", "equals", "at"] ["data", "place", "stop"] (defScope s_read_entry) := ⟨rfl, rfl, rfl, by decide +kernel, rfl, by decide +kernel, by decide +kernel⟩
abbrev s_law_is_integer : Stmt := topS 25
theorem sc_law_is_integer : FnScope ["actual"] ["actual"] (defScope s_law_is_integer) := ⟨rfl, rfl, rfl, by decide +kernel, rfl, by decide +kernel, by decide +kernel⟩
abbrev s_law_refill : Stmt := topS 26
theorem sc_law_refill : FnScope ["script", "k", "cell"] ["script", "k"] (defScope s_law_refill) := ⟨rfl, rfl, rfl, by decide +kernel, rfl, by decide +kernel, by decide +kernel⟩
abbrev s_law_draw : Stmt := topS 27
theorem sc_law_draw : FnScope ["state", "script", "size", "digit"] ["state", "script", "size"] (defScope s_law_draw) := ⟨rfl, rfl, rfl, by decide +kernel, rfl, by decide +kernel, by decide +kernel⟩
abbrev s_law_junk : Stmt := topS 29
theorem sc_law_junk : FnScope ["state", "script", "count", "k"] ["state", "script", "count"] (defScope s_law_junk) := ⟨rfl, rfl, rfl, by decide +kernel, rfl, by decide +kernel, by decide +kernel⟩
abbrev s_law_is_bytes : Stmt := topS 30
theorem sc_law_is_bytes : FnScope ["actual", "byte"] ["actual"] (defScope s_law_is_bytes) := ⟨rfl, rfl, rfl, by decide +kernel, rfl, by decide +kernel, by decide +kernel⟩
abbrev s_law_text : Stmt := topS 32
theorem sc_law_text : FnScope ["state", "script", "most", "edges", "text", "k", "point"] ["state", "script", "most"] (defScope s_law_text) := ⟨rfl, rfl, rfl, by decide +kernel, rfl, by decide +kernel, by decide +kernel⟩
abbrev s_law_name : Stmt := topS 33
theorem sc_law_name : FnScope ["state", "script", "pool", "name", "k", "point"] ["state", "script"] (defScope s_law_name) := ⟨rfl, rfl, rfl, by decide +kernel, rfl, by decide +kernel, by decide +kernel⟩
abbrev s_law_entries : Stmt := topS 34
theorem sc_law_entries : FnScope ["state", "script", "most", "k"] ["state", "script", "most"] (defScope s_law_entries) := ⟨rfl, rfl, rfl, by decide +kernel, rfl, by decide +kernel, by decide +kernel⟩
abbrev s_law_utf8 : Stmt := topS 35
theorem sc_law_utf8 : FnScope ["text", "body", "point", "low", "second"] ["text"] (defScope s_law_utf8) := ⟨rfl, rfl, rfl, by decide +kernel, rfl, by decide +kernel, by decide +kernel⟩
abbrev s_law_little : Stmt := topS 36
theorem sc_law_little : FnScope ["number"] ["number"] (defScope s_law_little) := ⟨rfl, rfl, rfl, by decide +kernel, rfl, by decide +kernel, by decide +kernel⟩
abbrev s_law_comment_bytes : Stmt := topS 37
theorem sc_law_comment_bytes : FnScope ["vendor", "entries", "name_bytes", "body", "entry", "one"] ["vendor", "entries"] (defScope s_law_comment_bytes) := ⟨rfl, rfl, rfl, by decide +kernel, rfl, by decide +kernel, by decide +kernel⟩
abbrev s_law_same : Stmt := topS 38
theorem sc_law_same : FnScope ["actual", "vendor", "entries", "one", "point"] ["actual", "vendor", "entries"] (defScope s_law_same) := ⟨rfl, rfl, rfl, by decide +kernel, rfl, by decide +kernel, by decide +kernel⟩
abbrev s_law : Stmt := topS 39
theorem sc_law : FnScope ["script", "state", "vendor", "entries", "text", "handed", "maker", "comments", "body", "before", "data", "kept", "back", "turned", "other", "second", "k", "entry", "point"] ["script"] (defScope s_law) := ⟨rfl, rfl, rfl, by decide +kernel, rfl, by decide +kernel, by decide +kernel⟩
theorem hu64 {A : Around} {k : Nat} (hr : Room k A) : A.units + 64 < cLine := hr.units
/-! ### short words for readings -/
theorem ret_eq {v w : V} {H H' : Hp} {Q : VK} (k : RetV v H Q) (ex : Ex H H') (e : w = v) : Q w H' := e ▸ k H' ex
/-- isinstance(x, T), T a built-in class -/
theorem ev_isi {K : PySem.W.Frag} {σ : L2.St} {H : Hp} {ta : TE} {x : V} {t : String} {T : String} {b : Bool} (ha : Ev ta σ H x) (ht : ∀ H1, Ex H H1 → TyX K H1 x (.type t)) (hk : kitB t T = some b) :
    Ev (tCB (rIsi K) (tCons ta (tCons (tC (.ty T)) tNil))) σ H (.bl b) :=
  ev_cb (ea_cons ha (ea_cons ev_c ea_nil)) fun H1 e Q q => ⟨x, .ty T, _, _, b, rfl, .ty T, ht H1 e, kit_ty hk, q H1 (Ex.refl H1)⟩
theorem isi_int {K : PySem.W.Frag} {H : Hp} {i : Int} : ∀ H1, Ex H H1 → TyX K H1 (V.int i) (.type "int") := fun _ _ => .base (.int _)
theorem isi_bl {K : PySem.W.Frag} {H : Hp} {b : Bool} : ∀ H1, Ex H H1 → TyX K H1 (V.bl b) (.type "bool") := fun _ _ => .base (.bl _)
theorem isi_non {K : PySem.W.Frag} {H : Hp} : ∀ H1, Ex H H1 → TyX K H1 V.non (.type "NoneType") := fun _ _ => .base .non
theorem isi_lst {K : PySem.W.Frag} {H : Hp} {a : Addr} {xs : List V} (h : H a = some (.lst xs)) : ∀ H1, Ex H H1 → TyX K H1 (V.ref a) (.type "list") := fun _ e => .base (.lst (e _ _ h))
theorem isi_tup {K : PySem.W.Frag} {H : Hp} {a : Addr} {xs : List V} (h : H a = some (.tup xs)) : ∀ H1, Ex H H1 → TyX K H1 (V.ref a) (.type "tuple") := fun _ e => .base (.tup (e _ _ h))
theorem kit_ii : kitB "int" "int" = some true := by decide +kernel
theorem kit_ib : kitB "int" "bool" = some false := by decide +kernel
theorem kit_bb : kitB "bool" "bool" = some true := by decide +kernel
theorem kit_bi : kitB "bool" "int" = some true := by decide +kernel
theorem kit_ll : kitB "list" "list" = some true := by decide +kernel
theorem kit_tt : kitB "tuple" "tuple" = some true := by decide +kernel
theorem ev_isiI {K : PySem.W.Frag} {σ : L2.St} {H : Hp} {ta : TE} {i : Int} (ha : Ev ta σ H (.int i)) : Ev (tCB (rIsi K) (tCons ta (tCons (tC (.ty "int")) tNil))) σ H (.bl true) := ev_isi ha isi_int kit_ii
theorem ev_isiB {K : PySem.W.Frag} {σ : L2.St} {H : Hp} {ta : TE} {i : Int} (ha : Ev ta σ H (.int i)) : Ev (tCB (rIsi K) (tCons ta (tCons (tC (.ty "bool")) tNil))) σ H (.bl false) := ev_isi ha isi_int kit_ib
theorem ev_isiL {K : PySem.W.Frag} {σ : L2.St} {H : Hp} {ta : TE} {a : Addr} {xs : List V} (ha : Ev ta σ H (.ref a)) (h : H a = some (.lst xs)) : Ev (tCB (rIsi K) (tCons ta (tCons (tC (.ty "list")) tNil))) σ H (.bl true) := ev_isi ha (isi_lst h) kit_ll
theorem ev_isiBB {K : PySem.W.Frag} {σ : L2.St} {H : Hp} {ta : TE} {b : Bool} (ha : Ev ta σ H (.bl b)) : Ev (tCB (rIsi K) (tCons ta (tCons (tC (.ty "bool")) tNil))) σ H (.bl true) := ev_isi ha isi_bl kit_bb
theorem ev_chain {σ : L2.St} {H : Hp} {ta tb tc : TE} {g g' : Int → Int → Bool} {a b c : Int} (ha : Ev ta σ H (.int a)) (hb : Ev tb σ H (.int b)) (hc : Ev tc σ H (.int c)) :
    Ev (tChain (rI0 fun i j => .bl (g i j)) (rI0 fun i j => .bl (g' i j)) ta tb tc) σ H (.bl (g a b && g' b c)) := fun H1 e Q q =>
  ha H1 e _ fun H2 e2 => hb H2 (e.trans e2) _ fun H3 e3 => ⟨a, b, rfl, rfl, g a b, rfl, by
    cases hg : g a b with
    | true =>
      rw [if_pos rfl]
      rw [hg, Bool.true_and] at q
      exact hc H3 ((e.trans e2).trans e3) _ fun H4 e4 => ⟨b, c, rfl, rfl, q H4 ((e2.trans e3).trans e4)⟩
    | false =>
      rw [if_neg (by decide)]
      rw [hg, Bool.false_and] at q
      exact q H3 (e2.trans e3)⟩
theorem ev_isN {σ : L2.St} {H : Hp} {ta : TE} {x : V} (ha : Ev ta σ H x) : Ev (tOp rIsN ta (tC .non)) σ H (.bl (decide (x = .non))) := fun H1 e Q q => ha H1 e _ fun H2 e2 => ⟨rfl, q H2 e2⟩
theorem ev_notN {σ : L2.St} {H : Hp} {ta : TE} {x : V} (ha : Ev ta σ H x) : Ev (tOp rNotN ta (tC .non)) σ H (.bl (!decide (x = .non))) := fun H1 e Q q => ha H1 e _ fun H2 e2 => ⟨rfl, q H2 e2⟩
theorem ev_min2 {σ : L2.St} {H : Hp} {ta tb : TE} {i j : Int} (ha : Ev ta σ H (.int i)) (hb : Ev tb σ H (.int j)) :
    Ev (tCB (fun xs H Q => ∃ i j, xs = [.int i, .int j] ∧ Q (.int (if j < i then j else i)) H) (tCons ta (tCons tb tNil))) σ H (.int (if j < i then j else i)) :=
  ev_cb (ea_cons ha (ea_cons hb ea_nil)) fun H1 _ _ q => ⟨i, j, rfl, q H1 (Ex.refl H1)⟩
theorem ev_negI {σ : L2.St} {H : Hp} {ta : TE} {i : Int} (ha : Ev ta σ H (.int i)) : Ev (tUn (rU fun i => .int (-i)) ta) σ H (.int (-i)) := ev_un ha ru_neg
theorem ev_I0 {σ : L2.St} {H : Hp} {ta tb : TE} {g : Int → Int → V} {i j : Int} (ha : Ev ta σ H (.int i)) (hb : Ev tb σ H (.int j)) : Ev (tOp (rI0 g) ta tb) σ H (g i j) := ev_op ha hb rv_I0
theorem ev_I {σ : L2.St} {H : Hp} {ta tb : TE} {C : Int → Int → Prop} {g : Int → Int → V} {i j : Int} (ha : Ev ta σ H (.int i)) (hb : Ev tb σ H (.int j)) (hc : C i j) : Ev (tOp (rI C g) ta tb) σ H (g i j) := ev_op ha hb (rv_I hc)
theorem ev_eq {σ : L2.St} {H : Hp} {ta tb : TE} {x y : V} (ha : Ev ta σ H x) (hb : Ev tb σ H y) (hs : scal x y = true) : Ev (tOp rEq ta tb) σ H (.bl (decide (x = y))) := ev_op ha hb (rv_eq hs)
theorem ev_ne {σ : L2.St} {H : Hp} {ta tb : TE} {x y : V} (ha : Ev ta σ H x) (hb : Ev tb σ H y) (hs : scal x y = true) : Ev (tOp rNe ta tb) σ H (.bl (!decide (x = y))) := ev_op ha hb (rv_ne hs)
theorem et_B' {σ : L2.St} {H : Hp} {te : TE} {x : V} {b : Bool} (h : Ev te σ H x) (e : x = .bl b) : EvT (tB te) σ H b := et_B (e ▸ h)
theorem dec_lt {a b : Nat} : decide ((a : Int) < (b : Int)) = decide (a < b) := by
  by_cases h : a < b
  · rw [decide_eq_true h, decide_eq_true (by omega)]
  · rw [decide_eq_false h, decide_eq_false (by omega)]
theorem int_at {ns : List Int} {i : Nat} {x : V} (hx : (ns.map V.int)[i]? = some x) : ∃ n, ns[i]? = some n ∧ i < ns.length ∧ x = V.int n := by
  rw [List.getElem?_map] at hx
  cases en : ns[i]? with
  | none => rw [en] at hx; cases hx
  | some n => rw [en] at hx; exact ⟨n, rfl, (List.getElem?_eq_some_iff.mp en).1, (Option.some.inj hx).symm⟩
theorem at_int {ns : List Int} {i : Nat} {n : Int} (h : ns[i]? = some n) : (ns.map V.int)[i]? = some (V.int n) := by rw [List.getElem?_map, h]; rfl
local macro_rules | `(tactic| walk_at "side") => `(tactic| first
  | omega | (show CMul _ _; unfold CMul; omega) | (show CDiv _ _; unfold CDiv; omega) | (show CPow _ _; unfold CPow; omega) | (show (_ : Int) < _; omega) | (show (_ : Int) ≤ _; omega) | decide)
local macro_rules | `(tactic| walk_at "ev") => `(tactic| first
  | exact ev_var rfl
  | exact ev_c
  | (refine' ev_I0 ?h1 ?h2; (case h1 => walk_at "ev"); (case h2 => walk_at "ev"))
  | (refine' ev_negI ?h1; (case h1 => walk_at "ev"))
  | (refine' ev_I ?h1 ?h2 ?hc; (case h1 => walk_at "ev"); (case h2 => walk_at "ev"); (case hc => walk_at "side"))
  | (refine' ev_eq ?h1 ?h2 ?hc; (case h1 => walk_at "ev"); (case h2 => walk_at "ev"); (case hc => rfl))
  | (refine' ev_ne ?h1 ?h2 ?hc; (case h1 => walk_at "ev"); (case h2 => walk_at "ev"); (case hc => rfl))
  | (refine' ev_max2 ?h1 ?h2; (case h1 => walk_at "ev"); (case h2 => walk_at "ev"))
  | (refine' ev_min2 ?h1 ?h2; (case h1 => walk_at "ev"); (case h2 => walk_at "ev"))
  | (refine' ev_chain ?h1 ?h2 ?h3; (case h1 => walk_at "ev"); (case h2 => walk_at "ev"); (case h3 => walk_at "ev"))
  | (refine' ev_isN ?h1; (case h1 => walk_at "ev"))
  | (refine' ev_notN ?h1; (case h1 => walk_at "ev"))
  | (refine' ev_isiI ?h1; (case h1 => walk_at "ev"))
  | (refine' ev_isiB ?h1; (case h1 => walk_at "ev"))
  | (refine' ev_isiBB ?h1; (case h1 => walk_at "ev"))
  | (refine' ev_andV ?h1 (fun _ => ?h2); (case h1 => walk_at "ev"); (case h2 => walk_at "ev"))
  | (refine' ev_orV ?h1 (fun _ => ?h2); (case h1 => walk_at "ev"); (case h2 => walk_at "ev"))
  | (refine' ev_notV ?h1; (case h1 => walk_at "ev"))
  | walk_at "evmore")
local macro_rules | `(tactic| walk_at "et") => `(tactic| first
  | (refine' et_test ?h1; (case h1 => walk_at "ev"))
  | (refine' et_B ?h1; (case h1 => walk_at "ev"))
  | (refine' et_not ?h1; (case h1 => walk_at "et"))
  | (refine' et_and ?h1 (fun _ => ?h2); (case h1 => walk_at "et"); (case h2 => walk_at "et"))
  | (refine' et_or ?h1 (fun _ => ?h2); (case h1 => walk_at "et"); (case h2 => walk_at "et")))
local macro_rules | `(tactic| walk_at "ea") => `(tactic| first
  | exact ea_nil
  | (refine' ea_cons ?h1 ?h2; (case h1 => walk_at "ev"); (case h2 => walk_at "ea")))
local macro_rules | `(tactic| walk_at "when") => `(tactic| (refine' q_when ?h ?h1 ?h2; (case h => walk_at "et")))
local macro_rules | `(tactic| walk_at "whenS") => `(tactic| (refine' s_when ?h ?h1 ?h2; (case h => walk_at "et")))
local macro_rules | `(tactic| walk_at "if") => `(tactic| (refine' q_if ?h ?h1 ?h2; (case h => walk_at "et")))
local macro_rules | `(tactic| walk_at "ifS") => `(tactic| (refine' s_if ?h ?h1 ?h2; (case h => walk_at "et")))
local macro_rules | `(tactic| walk_at "ret") => `(tactic| (refine' s_ret ?h ?h1; (case h => walk_at "ev")))
local macro_rules | `(tactic| walk_at "asg") => `(tactic| (refine' q_asg ?h ?h1; (case h => walk_at "ev")))
local macro_rules | `(tactic| walk_at "asgS") => `(tactic| (refine' s_asg ?h ?h1; (case h => walk_at "ev")))

/-! ### lists, existing or new -/
def EvR (te : TE) (σ : L2.St) (H : Hp) (xs : List V) : Prop := ∀ H1, Ex H H1 → ∀ Q : VK, (∀ p H2, Ex H1 H2 → H2 p = some (.lst xs) → Q (.ref p) H2) → te σ H1 Q
def EvS (K : PySem.W.Frag) (te : TE) (σ : L2.St) (H : Hp) (xs : List V) : Prop := ∀ H1, Ex H H1 → ∀ Q : VK, (∀ p H2, Ex H1 H2 → SqL K H2 p xs → Q (.ref p) H2) → te σ H1 Q
section
variable {K : PySem.W.Frag} {σ : L2.St} {H H' : Hp} {ta tb te : TE} {xs ys : List V} {a : Addr}
theorem EvL.r (h : EvL te σ H xs) : EvR te σ H xs := fun H1 e Q q => h H1 e Q fun p H2 _ e2 h2 => q p H2 e2 h2
theorem Ev.r (h : Ev te σ H (.ref a)) (hx : H a = some (.lst xs)) : EvR te σ H xs := fun H1 e Q q => h H1 e Q fun H2 e2 => q a H2 e2 (e2 _ _ (e _ _ hx))
theorem EvR.s (h : EvR te σ H xs) : EvS K te σ H xs := fun H1 e Q q => h H1 e Q fun p H2 e2 h2 => q p H2 e2 (sq_of h2)
theorem Ev.s (h : Ev te σ H (.ref a)) (hx : SqL K H a xs) : EvS K te σ H xs := fun H1 e Q q => h H1 e Q fun H2 e2 => q a H2 e2 (ex_l e2 (ex_l e hx))
theorem EvR.mono (e : Ex H H') (h : EvR te σ H xs) : EvR te σ H' xs := fun H1 a Q q => h H1 (e.trans a) Q q
theorem EvS.mono (e : Ex H H') (h : EvS K te σ H xs) : EvS K te σ H' xs := fun H1 a Q q => h H1 (e.trans a) Q q
theorem EvL.is (h : EvL te σ H xs) (e : xs = ys) : EvL te σ H ys := e ▸ h
theorem EvR.is (h : EvR te σ H xs) (e : xs = ys) : EvR te σ H ys := e ▸ h
theorem el_cat (ha : EvR ta σ H xs) (hb : EvR tb σ H ys) (hl : xs.length + ys.length ≤ 100000) : EvL (tOp rCat ta tb) σ H (xs ++ ys) := fun H1 e Q q =>
  ha H1 e _ fun p H2 e2 h2 => hb H2 (e.trans e2) _ fun r H3 e3 h3 => ⟨p, r, xs, ys, rfl, rfl, e3 _ _ h2, h3, sz_of hl, fun l hl => q l _ (fresh_back (e2.trans e3) hl) ((e2.trans e3).trans (Ex.new hl)) upd_same⟩
theorem el_rep {k : Int} (ha : EvR ta σ H xs) (hb : Ev tb σ H (.int k)) (hk : -(2 ^ 63) ≤ k ∧ k < 2 ^ 63) (hl : xs.length * k.toNat ≤ 100000) : EvL (tOp rRep ta tb) σ H (List.replicate k.toNat xs).flatten := fun H1 e Q q =>
  ha H1 e _ fun p H2 e2 h2 => hb H2 (e.trans e2) _ fun H3 e3 => ⟨p, k, xs, rfl, rfl, e3 _ _ h2, hk.1, hk.2, sz_of hl, fun l hl => q l _ (fresh_back (e2.trans e3) hl) ((e2.trans e3).trans (Ex.new hl)) upd_same⟩
theorem rep_one {x : V} (n : Nat) : (List.replicate n [x]).flatten = List.replicate n x := by
  induction n with
  | zero => rfl
  | succ n ih => rw [List.replicate_succ, List.replicate_succ, List.flatten_cons, ih]; rfl
theorem el_of {te : TE} (h : EvS K te σ H xs) : EvL (tCB (rListS K) (tCons te tNil)) σ H xs := fun H1 e Q q =>
  h H1 e _ fun p H2 e2 h2 => ⟨p, xs, rfl, .inl h2, fun l hl => q l _ (fresh_back e2 hl) (e2.trans (Ex.new hl)) upd_same⟩
theorem ev_lenS (h : EvS K te σ H xs) : Ev (tCB (rLenS K) (tCons te tNil)) σ H (.int (xs.length : Int)) := fun H1 e Q q =>
  h H1 e _ fun p H2 e2 h2 => ⟨p, xs, rfl, .inl h2, q H2 e2⟩
theorem ev_sum {ns : List Int} (h : EvS K te σ H (ns.map V.int)) : Ev (tCB (rSum K) (tCons te tNil)) σ H (.int ns.sum) := fun H1 e Q q =>
  h H1 e _ fun p H2 e2 h2 => ⟨p, ns, rfl, h2, q H2 e2⟩
theorem dp_ints {K : PySem.W.Frag} {H : Hp} : ∀ ns : List Int, DpAll K H (ns.map V.int) (ns.map PyData.int)
  | [] => .nil
  | n :: r => .cons (.int n) (dp_ints r)
theorem eqv_ints : ∀ ns ms : List Int, PyData.eqvAll (ns.map PyData.int) (ms.map PyData.int) = decide (ns = ms)
  | [], [] => by simp [PyData.eqvAll]
  | [], _ :: _ => by simp [PyData.eqvAll]
  | _ :: _, [] => by simp [PyData.eqvAll]
  | n :: r, m :: t => by
    show (PyData.eqv (.int n) (.int m) && PyData.eqvAll (r.map PyData.int) (t.map PyData.int)) = _
    rw [eqv_ints r t]
    show ((n == m) && decide (r = t)) = _
    by_cases h1 : n = m <;> by_cases h2 : r = t <;> simp [h1, h2]
theorem canLay_ints : ∀ ns : List Int, PyData.canLayAll0 (ns.map PyData.int) = true
  | [] => by simp [PyData.canLayAll0]
  | n :: r => by
    show PyData.canLayAll0 (PyData.int n :: r.map PyData.int) = true
    rw [PyData.canLayAll0, canLay_ints r]
    simp [PyData.canLay0]
theorem depth_ints : ∀ ns : List Int, PyData.depthAll (ns.map PyData.int) ≤ 1
  | [] => by simp [PyData.depthAll]
  | n :: r => by
    show PyData.depthAll (PyData.int n :: r.map PyData.int) ≤ 1
    have := depth_ints r
    simp only [PyData.depthAll, PyData.depth]
    omega
theorem shaped_ints (ns : List Int) : SeqAt.shaped (.list (ns.map PyData.int)) = true := by
  unfold SeqAt.shaped
  have h1 := canLay_ints ns
  have h2 := depth_ints ns
  have h3 : PyData.depth (.list (ns.map PyData.int)) ≤ 64 := by
    rw [PyData.depth]
    omega
  rw [decide_eq_true h3, Bool.and_true]
  simpa only [PyData.canLay0] using h1
theorem ev_eqI {ns ms : List Int} (ha : EvS K ta σ H (ns.map V.int)) (hb : EvS K tb σ H (ms.map V.int)) : Ev (tOp (rEqD K) ta tb) σ H (.bl (decide (ns = ms))) := fun H1 e Q q =>
  ha H1 e _ fun p H2 e2 h2 => hb H2 (e.trans e2) _ fun r H3 e3 h3 => ⟨.list (ns.map PyData.int), .list (ms.map PyData.int), .lst (ex_l e3 h2) (dp_ints ns), .lst h3 (dp_ints ms), shaped_ints ns, shaped_ints ms, by
    show Q (.bl (PyData.eqvAll (ns.map PyData.int) (ms.map PyData.int))) H3
    rw [eqv_ints]
    exact q H3 (e2.trans e3)⟩
theorem ev_neI {ns ms : List Int} (ha : EvS K ta σ H (ns.map V.int)) (hb : EvS K tb σ H (ms.map V.int)) : Ev (tOp (rNeD K) ta tb) σ H (.bl (!decide (ns = ms))) := fun H1 e Q q =>
  ha H1 e _ fun p H2 e2 h2 => hb H2 (e.trans e2) _ fun r H3 e3 h3 => ⟨.list (ns.map PyData.int), .list (ms.map PyData.int), .lst (ex_l e3 h2) (dp_ints ns), .lst h3 (dp_ints ms), shaped_ints ns, shaped_ints ms, by
    show Q (.bl (!PyData.eqvAll (ns.map PyData.int) (ms.map PyData.int))) H3
    rw [eqv_ints]
    exact q H3 (e2.trans e3)⟩
theorem ev_ixS {i : Nat} {n : Int} {tl ti : TE} {v : V} (h : EvS K tl σ H xs) (hi : Ev ti σ H (.int n)) (ha : atI xs n = some v) : Ev (tOp (rIxL K) tl ti) σ H v := fun H1 e Q q =>
  h H1 e _ fun p H2 e2 h2 => hi H2 (e.trans e2) _ fun H3 e3 => ⟨p, xs, n, v, rfl, rfl, ex_l e3 h2, ha, q H3 (e2.trans e3)⟩
theorem el_slS {tl th : TO} {lo hi : Option Int} (h : EvS K te σ H xs) (h1 : EvO tl σ H lo) (h2 : EvO th σ H hi) : EvL (tSl (rSlL K) te tl th) σ H (cutV xs lo hi) := fun H1 e _ q =>
  h H1 e _ fun a H2 e2 hs => h1 H2 (e.trans e2) _ fun H3 e3 => h2 H3 ((e.trans e2).trans e3) _ fun H4 e4 =>
    ⟨a, xs, rfl, ex_l (e3.trans e4) hs, fun p hp => q p _ (fresh_back ((e2.trans e3).trans e4) hp) (((e2.trans e3).trans e4).trans (Ex.new hp)) upd_same⟩
theorem ev_at {n : Int} {tl ti : TE} {v : V} (h : EvS K tl σ H xs) (hi : Ev ti σ H (.int n)) (ha : atI xs n = some v) : Ev (tOp (rIxL K) tl ti) σ H v := ev_ixS (i := 0) h hi ha
theorem cut_to (xs : List V) (i : Nat) : cutV xs none (some (i : Int)) = xs.take i := by
  unfold cutV
  rw [HT.sIx_none, HT.sIx_nat, List.drop_zero, Nat.sub_zero]
  by_cases h : i ≤ xs.length
  · rw [Nat.min_eq_left h]
  · rw [Nat.min_eq_right (by omega), List.take_of_length_le (Nat.le_refl _), List.take_of_length_le (by omega)]
theorem cut_from (xs : List V) (i : Nat) : cutV xs (some (i : Int)) none = xs.drop i := by
  unfold cutV
  rw [HT.sIx_none, HT.sIx_nat]
  by_cases h : i ≤ xs.length
  · rw [Nat.min_eq_left h, List.take_of_length_le (by rw [List.length_drop]; omega)]
  · rw [Nat.min_eq_right (by omega), List.drop_of_length_le (Nat.le_refl _), List.drop_of_length_le (show xs.length ≤ i by omega), List.take_nil]
theorem cut_mid (xs : List V) (i j : Nat) : cutV xs (some (i : Int)) (some (j : Int)) = (xs.drop i).take (j - i) := by
  unfold cutV
  rw [HT.sIx_nat, HT.sIx_nat]
  by_cases h : i ≤ xs.length
  · rw [Nat.min_eq_left h]
    by_cases h2 : j ≤ xs.length
    · rw [Nat.min_eq_left h2]
    · rw [Nat.min_eq_right (by omega), List.take_of_length_le (by rw [List.length_drop]; omega), List.take_of_length_le (by rw [List.length_drop]; omega)]
  · rw [Nat.min_eq_right (by omega : xs.length ≤ i), List.drop_of_length_le (Nat.le_refl _), List.drop_of_length_le (show xs.length ≤ i by omega)]
    simp
theorem el_to {th : TE} {ns : List Int} {i : Nat} (h : EvS K te σ H (ns.map V.int)) (h2 : Ev th σ H (.int i)) : EvL (tSl (rSlL K) te tNoPart (tPart th)) σ H ((ns.take i).map V.int) :=
  EvL.is (el_slS h eo_none (eo_some h2)) (by rw [List.map_take]; exact cut_to _ i)
theorem el_from {th : TE} {ns : List Int} {i : Nat} (h : EvS K te σ H (ns.map V.int)) (h2 : Ev th σ H (.int i)) : EvL (tSl (rSlL K) te (tPart th) tNoPart) σ H ((ns.drop i).map V.int) :=
  EvL.is (el_slS h (eo_some h2) eo_none) (by rw [List.map_drop]; exact cut_from _ i)
theorem el_mid {t1 t2 : TE} {ns : List Int} {i j : Nat} (h : EvS K te σ H (ns.map V.int)) (h1 : Ev t1 σ H (.int i)) (h2 : Ev t2 σ H (.int j)) : EvL (tSl (rSlL K) te (tPart t1) (tPart t2)) σ H (((ns.drop i).take (j - i)).map V.int) :=
  EvL.is (el_slS h (eo_some h1) (eo_some h2)) (by rw [List.map_take, List.map_drop]; exact cut_mid _ i j)
section
variable {D : Ends} {tz : TS} {sp : Sp} {dvs vs : List V} {E : XK} {tA : TA}
/-- x = f(..), whatever f promises -/
theorem q_asgC {i : Nat} (h : EvA tA σ H vs) (k : ∀ H1, Ex H H1 → sp (vs ++ dvs) H1 (fun x H2 => tz D (σ.set i (some x)) H2) E) : tSeq (tAsg (tCall sp dvs E tA) (gName i)) tz D σ H := h H (Ex.refl H) _ fun H1 e => k H1 e
theorem s_asgC {i : Nat} (h : EvA tA σ H vs) (k : ∀ H1, Ex H H1 → sp (vs ++ dvs) H1 (fun x H2 => D.nx (σ.set i (some x)) H2) E) : tAsg (tCall sp dvs E tA) (gName i) D σ H := h H (Ex.refl H) _ fun H1 e => k H1 e
theorem q_dropC (h : EvA tA σ H vs) (k : ∀ H1, Ex H H1 → sp (vs ++ dvs) H1 (fun _ H2 => tz D σ H2) E) : tSeq (tDrop (tCall sp dvs E tA)) tz D σ H := h H (Ex.refl H) _ fun H1 e => k H1 e
theorem s_retC (h : EvA tA σ H vs) (k : ∀ H1, Ex H H1 → sp (vs ++ dvs) H1 D.rt E) : tRet (tCall sp dvs E tA) D σ H := h H (Ex.refl H) _ fun H1 e => k H1 e
end
theorem gl_get {ns : List Int} {i : Nat} (h : i < ns.length) : ns[i]? = some (ns.getD i 0) := by
  rw [List.getD_eq_getElem?_getD, List.getElem?_eq_getElem h]
  rfl
theorem q_asgRaw {te : TE} {i : Nat} {D : Ends} {tz : TS} (P : V → Hp → Prop) (h : ∀ Q : VK, (∀ x H2, P x H2 → Q x H2) → te σ H Q) (k : ∀ x H2, P x H2 → tz D (σ.set i (some x)) H2) : tSeq (tAsg te (gName i)) tz D σ H := h _ k
/-- a, b = a pair -/
theorem q_asgT {te : TE} {i j : Nat} {D : Ends} {tz : TS} (P : V → V → Hp → Prop) (h : ∀ Q : VK, (∀ t x y H2, P x y H2 → SqT K H2 t [x, y] → Q (.ref t) H2) → te σ H Q) (k : ∀ x y H2, P x y H2 → tz D ((σ.set i (some x)).set j (some y)) H2) :
    tSeq (tAsg te (gTup K 2 (gCons (gName i) (gCons (gName j) gNil)))) tz D σ H := h _ fun t x y H2 hP hT => ⟨t, [x, y], rfl, hT, rfl, x, [y], rfl, y, [], rfl, rfl, k x y H2 hP⟩
/-- the law's cell -/
def cellI (ns : List Int) (k : Int) : Int := ns.getD k.toNat 0
theorem cellI_in {ns : List Int} {k : Int} (h0 : 0 ≤ k) (h : k < ns.length) : ns[k.toNat]? = some (cellI ns k) := by
  unfold cellI
  rw [List.getD_eq_getElem?_getD, List.getElem?_eq_getElem (by omega)]
  rfl
theorem cellI_out {ns : List Int} {k : Int} (h : ¬ k < ns.length) : cellI ns k = 0 := by
  unfold cellI
  rw [List.getD_eq_getElem?_getD, List.getElem?_eq_none (by omega)]
  rfl
end
theorem Ex.get {H H' : Hp} {a : Addr} {o : HO} (e : Ex H H') (h : H a = some o) : H' a = some o := e a o h
local macro_rules | `(tactic| walk_at "hp") => `(tactic| first
  | assumption
  | exact upd_same
  | (refine' Ex.get (by assumption) ?h1; (case h1 => walk_at "hp")))
local macro_rules | `(tactic| walk_at "ex") => `(tactic| first
  | assumption
  | exact Ex.refl _
  | (refine' Ex.trans ?h1 (by assumption); (case h1 => walk_at "ex")))
local macro_rules | `(tactic| walk_at "sq") => `(tactic| first
  | assumption
  | (refine' sq_of ?h1; (case h1 => walk_at "hp"))
  | (refine' ex_l (by assumption) ?h1; (case h1 => walk_at "sq")))
local macro_rules | `(tactic| walk_at "evs") => `(tactic| first
  | (refine' Ev.s ?h1 ?h2; (case h1 => exact ev_var rfl); (case h2 => walk_at "sq"))
  | (refine' EvR.s ?h1; (case h1 => walk_at "evr")))
local macro_rules | `(tactic| walk_at "evr") => `(tactic| first
  | (refine' Ev.r ?h1 ?h2; (case h1 => exact ev_var rfl); (case h2 => walk_at "hp"))
  | (refine' EvL.r ?h1; (case h1 => walk_at "el")))
local macro_rules | `(tactic| walk_at "eo") => `(tactic| first
  | exact eo_none
  | (refine' eo_some ?h1; (case h1 => walk_at "ev")))
local macro_rules | `(tactic| walk_at "el") => `(tactic| first
  | (refine' el_lst ?h1 ?h2; (case h1 => walk_at "ea"); (case h2 => exact Nat.le_of_ble_eq_true rfl))
  | (refine' el_cat ?h1 ?h2 ?h3; (case h1 => walk_at "evr"); (case h2 => walk_at "evr"); (case h3 => walk_at "len"))
  | (refine' el_rep ?h1 ?h2 ?h3 ?h4; (case h1 => walk_at "evr"); (case h2 => walk_at "ev"); (case h3 => walk_at "side2"); (case h4 => walk_at "len"))
  | (refine' el_of ?h1; (case h1 => walk_at "evs"))
  | (refine' el_to ?h1 ?h2; (case h1 => walk_at "evs"); (case h2 => walk_at "ev"))
  | (refine' el_from ?h1 ?h2; (case h1 => walk_at "evs"); (case h2 => walk_at "ev"))
  | (refine' el_mid ?h1 ?h2 ?h3; (case h1 => walk_at "evs"); (case h2 => walk_at "ev"); (case h3 => walk_at "ev"))
  | (refine' el_slS ?h1 ?h2 ?h3; (case h1 => walk_at "evs"); (case h2 => walk_at "eo"); (case h3 => walk_at "eo"))
  | walk_at "elmore")
local macro_rules | `(tactic| walk_at "evmore") => `(tactic| first
  | (refine' ev_lenS ?h1; (case h1 => walk_at "evs"))
  | (refine' ev_sum ?h1; (case h1 => walk_at "evs"))
  | (refine' ev_eqI ?h1 ?h2; (case h1 => walk_at "evs"); (case h2 => walk_at "evs"))
  | (refine' ev_neI ?h1 ?h2; (case h1 => walk_at "evs"); (case h2 => walk_at "evs"))
  | (refine' ev_at ?h1 ?h2 ?h3; (case h1 => walk_at "evs"); (case h2 => walk_at "ev"); (case h3 => walk_at "at"))
  | (refine' ev_isiL ?h1 ?h2; (case h1 => walk_at "ev"); (case h2 => walk_at "hp"))
  | walk_at "evown")
local macro_rules | `(tactic| walk_at "at") => `(tactic| first
  | exact at_of rfl (at_int (by assumption))
  | exact at_of rfl (by assumption))
local macro_rules | `(tactic| walk_at "asgL") => `(tactic| (refine' q_asgL ?h ?h1; (case h => walk_at "el")))
local macro_rules | `(tactic| walk_at "retL") => `(tactic| (refine' s_retL ?h ?h1; (case h => walk_at "el")))

/-- a walk's reading said in other words -/
theorem PI.k {X : Cx} {tg e : Expr} {wi wi' : TI} (h : PI X tg e wi) (q : wi = wi') : PI X tg e wi' := q ▸ h
/-! ### comprehensions whose items are said in a list -/
theorem et_yes {σ : L2.St} {H : Hp} : EvT tYes σ H true := fun H1 _ _ q => q H1 (Ex.refl H1)
section
variable {K : PySem.W.Frag} {σ : L2.St} {H : Hp} {t1 t2 te : TE} {xs ys zs : List V} {vs : List Nat}
theorem take_snoc {zs : List V} {i : Nat} {z : V} (h : zs[i]? = some z) : zs.take (i + 1) = zs.take i ++ [z] := by
  rw [List.take_add_one, h]
  rfl
theorem el_lcZ {j1 j2 : Nat} (zs : List V) (h1 : EvS K t1 σ H xs) (h2 : EvS K t2 σ H ys) (hz : zs.length = min xs.length ys.length) (hb : zs.length ≤ 50000)
    (hw : ∀ x y, wipe (((wipe σ vs).set j1 (some x)).set j2 (some y)) vs = wipe σ vs)
    (he : ∀ (i : Nat) (x y : V) H1, Ex H H1 → xs[i]? = some x → ys[i]? = some y → ∃ z, zs[i]? = some z ∧ Ev te (((wipe σ vs).set j1 (some x)).set j2 (some y)) H1 z) :
    EvL (tLc (iZip K (tCons t1 (tCons t2 tNil))) (gTup K 2 (gCons (gName j1) (gCons (gName j2) gNil))) tYes te vs) σ H zs := fun H0 e Q q =>
  h1 H0 e _ fun p H1 e1 hp => h2 H1 (e.trans e1) _ fun r H2 e2 hr => ⟨p, r, xs, ys, rfl, ex_l e2 hp, hr, fun D hD =>
    ⟨fun i m H' => m = zs.length - i ∧ i ≤ zs.length ∧ Ex H2 H' ∧ H' D = some (.lst (zs.take i)), ⟨zs.length, rfl, Nat.zero_le _, Ex.new hD, upd_same⟩, by
      rintro i m H' ⟨rfl, hi, ex, hd⟩
      have qx : SqL K H' p xs := ex_l (e2.trans ex) hp
      have qy : SqL K H' r ys := ex_l ex hr
      by_cases hlt : i < zs.length
      · have hx : xs[i]? = some xs[i] := List.getElem?_eq_getElem (by omega)
        have hy : ys[i]? = some ys[i] := List.getElem?_eq_getElem (by omega)
        refine .inr ⟨⟨xs, ys, _, _, qx, qy, hx, hy⟩, fun H3 => i + 1 ≤ zs.length ∧ Ex H2 H3 ∧ H3 D = some (.lst (zs.take (i + 1))), fun H3 h3 => ⟨zs.length - (i + 1), by omega, rfl, h3⟩, fun v H3 hv => ?_⟩
        obtain ⟨T, x, y, rfl, hT, rfl, f1, f2⟩ := hv
        have ex3 : Ex H' (upd H' T (.tup [x, y])) := Ex.new hT
        obtain ⟨z, hz1, hz2⟩ := he i x y (upd H' T (.tup [x, y])) ((((e.trans e1).trans e2).trans ex).trans ex3) (f1 _ qx) (f2 _ qy)
        refine ⟨T, [x, y], rfl, st_of upd_same, rfl, x, [y], rfl, y, [], rfl, rfl, hw x y, ?_⟩
        refine hz2 _ (Ex.refl _) _ fun H4 e4 => ⟨zs.take i, e4 _ _ (ex3 _ _ hd), sz_lt (by rw [List.length_take]; omega), hlt, ?_, ?_⟩
        · exact Ex.mut ((ex.trans ex3).trans e4) hD
        · rw [upd_same, take_snoc hz1]
      · have ei : i = zs.length := by omega
        refine .inl ⟨⟨xs, ys, qx, qy, by omega⟩, ?_⟩
        rw [ei, List.take_length] at hd
        exact q D H' (fresh_back (e1.trans e2) hD) ((e1.trans e2).trans ex) hd⟩⟩
/-- over a list, each item kept -/
theorem el_lcS {j : Nat} (zs : List V) (h1 : EvS K t1 σ H xs) (hz : zs.length = xs.length) (hb : zs.length ≤ 50000) (hw : ∀ x, wipe ((wipe σ vs).set j (some x)) vs = wipe σ vs)
    (he : ∀ (i : Nat) (x : V) H1, Ex H H1 → xs[i]? = some x → ∃ z, zs[i]? = some z ∧ Ev te ((wipe σ vs).set j (some x)) H1 z) :
    EvL (tLc (iList K t1) (gName j) tYes te vs) σ H zs := fun H0 e Q q =>
  h1 H0 e _ fun p H1 e1 hp => ⟨p, rfl, ⟨xs, hp⟩, fun D hD => lc_list (xs := xs) (fun i H' => Ex H1 H' ∧ H' D = some (.lst (zs.take i))) ⟨Ex.new hD, upd_same⟩ (fun i H' _ h => ex_l h.1 hp)
    (fun i x H' hi h => ⟨hw x, by
      obtain ⟨z, hz1, hz2⟩ := he i x H' ((e.trans e1).trans h.1) hi
      have hl : i < xs.length := (List.getElem?_eq_some_iff.mp hi).1
      refine hz2 H' (Ex.refl _) _ fun H4 e4 => ⟨zs.take i, e4 _ _ h.2, sz_lt (by rw [List.length_take]; omega), Ex.mut (h.1.trans e4) hD, ?_⟩
      rw [upd_same, take_snoc hz1]⟩)
    (fun H' h => q D H' (fresh_back e1 hD) (e1.trans h.1) (by rw [h.2, ← hz, List.take_length]))⟩
/-- over range(n) -/
theorem el_lcR {ta : TA} {n : Int} {j : Nat} (zs : List V) (h1 : EvA ta σ H [.int n]) (hn : -100000 ≤ n) (hz : zs.length = n.toNat) (hb : zs.length ≤ 50000) (hw : ∀ x, wipe ((wipe σ vs).set j (some x)) vs = wipe σ vs)
    (he : ∀ (i : Nat) H1, Ex H H1 → i < zs.length → ∃ z, zs[i]? = some z ∧ Ev te ((wipe σ vs).set j (some (.int (i : Int)))) H1 z) :
    EvL (tLc (iRng1 ta) (gName j) tYes te vs) σ H zs := fun H0 e Q q =>
  h1 H0 e _ fun H1 e1 => ⟨n, rfl, by omega, by omega, fun D hD => lc_range (lo := 0) (n := n.toNat) (fun i H' => Ex H1 H' ∧ H' D = some (.lst (zs.take i))) ⟨Ex.new hD, upd_same⟩
    (fun i H' hi h => by
      have e0 : (0 : Int) + (i : Int) = (i : Int) := Int.zero_add _
      rw [e0]
      obtain ⟨z, hz1, hz2⟩ := he i H' ((e.trans e1).trans h.1) (by omega)
      refine ⟨hw _, hz2 H' (Ex.refl _) _ fun H4 e4 => ⟨zs.take i, e4 _ _ h.2, sz_lt (by rw [List.length_take]; omega), Ex.mut (h.1.trans e4) hD, ?_⟩⟩
      rw [upd_same, take_snoc hz1])
    (fun H' h => q D H' (fresh_back e1 hD) (e1.trans h.1) (by rw [h.2, show n.toNat = zs.length by omega, List.take_length]))⟩
/-- y = [.. for x in f(..)], whatever f promises -/
theorem s_asgLC {sp : Sp} {dvs args : List V} {E : XK} {ta : TA} {g : TG} {tt : TT} {D : Ends} {i : Nat} (h : EvA ta σ H args) (k : ∀ H1, Ex H H1 → sp (args ++ dvs) H1 (fun x H2 => tAsg (tLc (iList K (tC x)) g tt te vs) (gName i) D σ H2) E) :
    tAsg (tLc (iList K (tCall sp dvs E ta)) g tt te vs) (gName i) D σ H := h H (Ex.refl H) _ fun H1 e => k H1 e
theorem q_asgLC {sp : Sp} {dvs args : List V} {E : XK} {ta : TA} {g : TG} {tt : TT} {D : Ends} {i : Nat} {tz : TS} (h : EvA ta σ H args) (k : ∀ H1, Ex H H1 → sp (args ++ dvs) H1 (fun x H2 => tSeq (tAsg (tLc (iList K (tC x)) g tt te vs) (gName i)) tz D σ H2) E) :
    tSeq (tAsg (tLc (iList K (tCall sp dvs E ta)) g tt te vs) (gName i)) tz D σ H := h H (Ex.refl H) _ fun H1 e => k H1 e
theorem s_retLC {sp : Sp} {dvs args : List V} {E : XK} {ta : TA} {g : TG} {tt : TT} {D : Ends} (h : EvA ta σ H args) (k : ∀ H1, Ex H H1 → sp (args ++ dvs) H1 (fun x H2 => tRet (tLc (iList K (tC x)) g tt te vs) D σ H2) E) :
    tRet (tLc (iList K (tCall sp dvs E ta)) g tt te vs) D σ H := h H (Ex.refl H) _ fun H1 e => k H1 e
end

/-! ### data at any depth -/
mutual
theorem dp_ex {K : PySem.W.Frag} {H H' : Hp} (e : Ex H H') : ∀ (d : PyData) (v : V), Dp K H v d → Dp K H' v d
  | .none, _, h => by cases h; exact .non
  | .bool b, _, h => by cases h; exact .bl b
  | .int i, _, h => by cases h; exact .int i
  | .str x, _, h => by cases h; exact .str x
  | .list ds, _, h => by cases h with | lst hs ha => exact .lst (ex_l e hs) (dpa_ex e ds _ ha)
  | .tuple ds, _, h => by cases h with | tup hs ha => exact .tup (ex_t e hs) (dpa_ex e ds _ ha)
  | .dict _, _, h => by cases h
theorem dpa_ex {K : PySem.W.Frag} {H H' : Hp} (e : Ex H H') : ∀ (ds : List PyData) (vs : List V), DpAll K H vs ds → DpAll K H' vs ds
  | [], _, h => by cases h; exact .nil
  | d :: ds, _, h => by cases h with | cons h1 h2 => exact .cons (dp_ex e d _ h1) (dpa_ex e ds _ h2)
end
def EvD (K : PySem.W.Frag) (te : TE) (σ : L2.St) (H : Hp) (d : PyData) : Prop := ∀ H1, Ex H H1 → ∀ Q : VK, (∀ v H2, Ex H1 H2 → Dp K H2 v d → Q v H2) → te σ H1 Q
section
variable {K : PySem.W.Frag} {σ : L2.St} {H : Hp} {te ta tb t1 t2 t3 : TE} {d d1 d2 d3 : PyData} {v : V}
theorem EvD.of (h : Ev te σ H v) (hd : Dp K H v d) : EvD K te σ H d := fun H1 e Q q => h H1 e _ fun H2 e2 => q v H2 e2 (dp_ex (e.trans e2) d v hd)
theorem EvS.toD {ns : List Int} (h : EvS K te σ H (ns.map V.int)) : EvD K te σ H (.list (ns.map .int)) := fun H1 e Q q => h H1 e _ fun p H2 e2 hp => q (.ref p) H2 e2 (.lst hp (dp_ints ns))
theorem ed_tup2 (h1 : EvD K t1 σ H d1) (h2 : EvD K t2 σ H d2) : EvD K (tTup (tCons t1 (tCons t2 tNil))) σ H (.tuple [d1, d2]) := fun H1 e Q q => h1 H1 e _ fun v H2 e2 hv => h2 H2 (e.trans e2) _ fun u H3 e3 hu =>
  ⟨sz_of (show 2 ≤ 100000 by decide), fun p hp => q (.ref p) _ ((e2.trans e3).trans (Ex.new hp)) (.tup (st_of upd_same) (.cons (dp_ex (e3.trans (Ex.new hp)) _ _ hv) (.cons (dp_ex (Ex.new hp) _ _ hu) .nil)))⟩
theorem ev_eqDD (h1 : EvD K ta σ H d) (h2 : EvD K tb σ H d) (hs : SeqAt.shaped d = true) : Ev (tOp (rEqD K) ta tb) σ H (.bl true) := fun H1 e Q q => h1 H1 e _ fun v H2 e2 hv => h2 H2 (e.trans e2) _ fun u H3 e3 hu =>
  ⟨d, d, dp_ex e3 d v hv, hu, hs, hs, by rw [SeqAt.eqv_refl d (SeqAt.canLay_of_shaped hs)]; exact q H3 (e2.trans e3)⟩
theorem ev_neDD (h1 : EvD K ta σ H d) (h2 : EvD K tb σ H d) (hs : SeqAt.shaped d = true) : Ev (tOp (rNeD K) ta tb) σ H (.bl false) := fun H1 e Q q => h1 H1 e _ fun v H2 e2 hv => h2 H2 (e.trans e2) _ fun u H3 e3 hu =>
  ⟨d, d, dp_ex e3 d v hv, hu, hs, hs, by rw [SeqAt.eqv_refl d (SeqAt.canLay_of_shaped hs)]; exact q H3 (e2.trans e3)⟩
end
theorem shaped_pair (ns ms : List Int) : SeqAt.shaped (.tuple [.list (ns.map .int), .list (ms.map .int)]) = true := by
  unfold SeqAt.shaped
  have h1 := canLay_ints ns
  have h2 := depth_ints ns
  have h3 := canLay_ints ms
  have h4 := depth_ints ms
  rw [Bool.and_eq_true, decide_eq_true_iff]
  refine ⟨by simp only [PyData.canLay0, PyData.canLayAll0, h1, h3, Bool.and_self], ?_⟩
  simp only [PyData.depth, PyData.depthAll]
  omega

/-! ### calls with keywords, defaults -/
theorem kwAllN {K : PySem.W.Frag} {D : Addr} : ∀ p ∈ ([] : List (Str × V)), ∃ u, PySem.W.nsIn K D p.1 = some (some u) ∧ RelV p.2 u := fun p hp => by cases hp
theorem kwAllC {K : PySem.W.Frag} {D : Addr} {q : Str × V} {l : List (Str × V)} (h : ∃ u, PySem.W.nsIn K D q.1 = some (some u) ∧ RelV q.2 u) (hl : ∀ p ∈ l, ∃ u, PySem.W.nsIn K D p.1 = some (some u) ∧ RelV p.2 u) : ∀ p ∈ q :: l, ∃ u, PySem.W.nsIn K D p.1 = some (some u) ∧ RelV p.2 u := fun p hp => by
  rcases List.mem_cons.mp hp with rfl | hp
  · exact h
  · exact hl p hp
theorem kwAll1 {K : PySem.W.Frag} {D : Addr} {q : Str × V} (h : ∃ u, PySem.W.nsIn K D q.1 = some (some u) ∧ RelV q.2 u) : ∀ p ∈ [q], ∃ u, PySem.W.nsIn K D p.1 = some (some u) ∧ RelV p.2 u := fun p hp => by
  rcases List.mem_cons.mp hp with rfl | hp
  · exact h
  · cases hp
section
variable {K : PySem.W.Frag} {x qual : Str} {params : Arguments} {body : List Stmt} {scope : Scope} {dvs : List V} {kws : List (Str × V)} {f : Addr} {fd : FuncData} {ps : List Str}
/-- f(a, .., k = v, ..), nothing left to a default, no defaults of place -/
theorem fund_kb0 {g : List Value → List Value → List Value} {gV : List V → List V → List V} (F : FunD K x qual params body scope [] kws f fd) (n : Nat) (ks : List Str)
    (hrel : ∀ {vs : List V} {us : List Value} {zs : List V} {ws : List Value}, Vals vs us → Vals zs ws → Vals (gV vs zs) (g us ws))
    (h : ∀ (kV doc pm : Value) (an : Option Addr) (cdv ct : Value) (us ws : List Value), us.length = n → ws.length = ks.length → bindArgs (PySem.W.fnOf x qual params body scope .none kV doc pm an cdv ct) ⟨us, ks.zip ws⟩ = pure (ps.zip (g us ws))) :
    KBn K fd ps n ks g gV := by
  obtain ⟨oc, od, dV, kV, doc, pm, an, cdv, ct, osl, rfl, lk, hcd, hD, hK⟩ := F.ex
  rcases hD with ⟨_, rfl⟩ | ⟨e, _⟩
  · exact ⟨fun s us ws X l1 l2 => .of_eq (h kV doc pm an cdv ct us ws l1 l2), hrel⟩
  · exact absurd rfl e
/-- the same of a def with defaults of place -/
theorem fund_kb1 {g : List Value → List Value → List Value} {gV : List V → List V → List V} (F : FunD K x qual params body scope dvs kws f fd) (hd : dvs ≠ []) (n : Nat) (ks : List Str)
    (hrel : ∀ {vs : List V} {us : List Value} {zs : List V} {ws : List Value}, Vals vs us → Vals zs ws → Vals (gV vs zs) (g us ws))
    (h : ∀ (T : Addr) (kV doc pm : Value) (an : Option Addr) (cdv ct : Value) (us its ws : List Value), us.length = n → its.length = dvs.length → ws.length = ks.length →
      ∃ k, bindArgs (PySem.W.fnOf x qual params body scope (.ref T) kV doc pm an cdv ct) ⟨us, ks.zip ws⟩ = seqItems? (.ref T) >>= k ∧ k (some its.toArray) = pure (ps.zip (g us ws))) :
    KBn K fd ps n ks g gV := by
  obtain ⟨oc, od, dV, kV, doc, pm, an, cdv, ct, osl, rfl, lk, hcd, hD, hK⟩ := F.ex
  rcases hD with ⟨e, _⟩ | ⟨_, T, o, its, m, rfl, lT, oT, rT⟩
  · exact absurd e hd
  · refine ⟨fun s us ws X l1 l2 => ?_, hrel⟩
    obtain ⟨k, e1, e2⟩ := h T kV doc pm an cdv ct us its ws l1 rT.length.symm l2
    refine BindsTo.of_looks fun M => ?_
    rw [e1]
    exact looks_items X lT oT (.of_pure e2)
end

/-! ### x == y by x's own method -/
def rEqO (C : Addr) (sp : Sp) (E : XK) (K : PySem.W.Frag) : R2 := fun x y H Q => ∃ (a dx : Addr) (fs : List (Str × V)) (t : Value), x = .ref a ∧ H a = some (.ins C dx fs) ∧ TyX K H y t ∧ PySem.W.notFirst K C t = true ∧ sp [.ref a, y] H (fun v H' => (∃ b, v = .bl b) ∧ Q v H') E
structure TyC (K : PySem.W.Frag) (C : Addr) : Prop where
  ha : PySem.W.findIn K (.ref C) "__class__" = some (some (.builtin "object.__class__"))
  hn : PySem.W.specialIn K (.builtin "object.__class__") "__get__" = some (some (.builtin "getset_descriptor.__get__"))
  ht : PySem.W.takesIn K (.builtin "object.__class__") = some true
  hm : PySem.W.mroIn K C (.type "object") = some true
theorem TyC.ins {K : PySem.W.Frag} {C : Addr} (t : TyC K C) (c : Cls K C) {H : Hp} {a dx : Addr} {fs : List (Str × V)} (h : H a = some (.ins C dx fs)) : ∀ H1, Ex H H1 → TyX K H1 (.ref a) (.ref C) := fun H1 e => .base (.ins (e _ _ h) c t.ha t.hn t.ht t.hm)
/-- isinstance(x, C), C an own class -/
theorem ev_isiO {K : PySem.W.Frag} {σ : L2.St} {H : Hp} {ta : TE} {x : V} {t : Value} {C : Addr} {b : Bool} (ha : Ev ta σ H x) (ht : ∀ H1, Ex H H1 → TyX K H1 x t) (hk : PySem.W.kitOne K t (.ref C) = some b) : Ev (tCB (rIsi K) (tCons ta (tCons (tC (.ref C)) tNil))) σ H (.bl b) :=
  ev_cb (ea_cons ha (ea_cons ev_c ea_nil)) fun H1 e Q q => ⟨x, .ref C, t, _, b, rfl, .own C, ht H1 e, hk, q H1 (Ex.refl H1)⟩
theorem ev_eqO {K : PySem.W.Frag} {σ : L2.St} {H : Hp} {ta tb : TE} {C a dx : Addr} {fs : List (Str × V)} {y : V} {t : Value} {sp : Sp} {E : XK} {b : Bool} (ha : Ev ta σ H (.ref a)) (hx : H a = some (.ins C dx fs)) (hb : Ev tb σ H y) (ht : ∀ H1, Ex H H1 → TyX K H1 y t) (hn : PySem.W.notFirst K C t = true) (hs : SpV sp [.ref a, y] H (.bl b)) : Ev (tOp (rEqO C sp E K) ta tb) σ H (.bl b) := fun H1 e Q q =>
  ha H1 e _ fun H2 e2 => hb H2 (e.trans e2) _ fun H3 e3 => ⟨a, dx, fs, t, rfl, ((e.trans e2).trans e3) _ _ hx, ht H3 ((e.trans e2).trans e3), hn, hs H3 ((e.trans e2).trans e3) _ (fun H4 e4 => ⟨⟨b, rfl⟩, q H4 ((e2.trans e3).trans e4)⟩) E⟩
theorem op_eqO {X : Cx} {CX : CXT} {C f : Addr} {fd : FuncData} {ps : List Str} {sp : Sp} {E : XK} {n : Nat} (F : FnOk X.prog X.w X.K X.mg X.base CX n f fd ps sp) (hs : PySem.W.findIn X.K (.ref C) "__eq__" = some (some (.ref f))) (hf : PySem.W.isFn X.K (.ref f) = true)
    (hb : Binds X.K fd ps []) (hx : Passes CX X E) (hr : Room n X.A) : OpR X (compareOp .Eq) (rEqO C sp E X.K) := by
  intro pins s σ H x y v u Q I rx ry hq
  obtain ⟨a, dx, fs, t, rfl, ha, ty, hn, hsp⟩ := hq
  cases rx
  obtain ⟨mA, J, _⟩ := ins_get I.hok ha
  obtain ⟨od, J, _⟩ := J.look
  obtain ⟨Pt, Z, hP, _⟩ := kit_of I ry ty
  obtain ⟨m, hF⟩ := I.fr
  show wpAny (model X.prog X.w) X.A (richCompare .Eq (.ref a) u) (EP X pins σ Q) X.xe s
  refine PySem.W.cmp_K (op := .Eq) (tb := t) hr.units0 hF I.ok.mod.kin J (Z.ty _ _ I.kIn hP) hn hs hf ?_
  have hl := F.len _ _ _ _ hsp
  have r2 : Vals [V.ref a, y] [Value.ref a, u] := .cons rfl (.cons ry .nil)
  refine wpAny_call (codeAny_mono (F.run X.A X.stack s H ⟨[.ref a, u], []⟩ [.ref a, u] [.ref a, y] _ E hr I.env0 (by
    have := hb s [.ref a, u] I.kIn (by simpa using hl)
    simpa using this) r2 hsp) fun r s' hq => ?_)
  cases r with
  | error e => exact hx pins σ H s e s' I hq
  | ok fl =>
    cases fl with
    | ret w =>
      obtain ⟨z, H', I', rz, ⟨b, ez⟩, q⟩ := I.after hq
      subst ez
      cases rz
      exact ⟨.bl b, H', I', rfl, q⟩
    | next => exact False.elim hq
    | brk => exact False.elim hq
    | cont => exact False.elim hq
theorem kit_cls' {K : PySem.W.Frag} {C : Addr} {t : Value} (hd : PySem.W.hasDictIn K C = true) (ht : PySem.W.typeIn K (.ref C) = some (.type "type")) (hs : PySem.W.subIn K t (.ref C) = some false) (hn : (t == Value.ref C) = false) : PySem.W.kitOne K t (.ref C) = some false ∧ PySem.W.notFirst K C t = true := by
  obtain ⟨cd, hc, _⟩ := PySem.W.any_some hd
  refine ⟨?_, ?_⟩
  · unfold PySem.W.kitOne PySem.W.kitCls
    rw [hn, if_neg (by decide)]
    show (if ((PySem.W.clsIn K C).isSome && PySem.W.typeIn K (.ref C) == some (.type "type")) = true then PySem.W.subIn K t (.ref C) else none) = _
    rw [hc, ht, if_pos (by simp), hs]
  · unfold PySem.W.notFirst
    rw [hs, hn]
    simp
theorem kit_ty {K : PySem.W.Frag} {C : Addr} {T : String} (hd : PySem.W.hasDictIn K C = true) (ht : PySem.W.typeIn K (.ref C) = some (.type "type")) (hs : PySem.W.subIn K (.type T) (.ref C) = some false) : PySem.W.kitOne K (.type T) (.ref C) = some false ∧ PySem.W.notFirst K C (.type T) = true := kit_cls' hd ht hs rfl
theorem kit_self {K : PySem.W.Frag} {C : Addr} : PySem.W.kitOne K (.ref C) (.ref C) = some true ∧ PySem.W.notFirst K C (.ref C) = true := by
  refine ⟨?_, ?_⟩
  · unfold PySem.W.kitOne
    rw [if_pos (by simp)]
  · unfold PySem.W.notFirst
    simp
theorem kit_ref {K : PySem.W.Frag} {C D : Addr} (hd : PySem.W.hasDictIn K C = true) (ht : PySem.W.typeIn K (.ref C) = some (.type "type")) (hz : PySem.W.subIn K (.ref C) (.ref C) = some true) (hs : PySem.W.subIn K (.ref D) (.ref C) = some false) : PySem.W.kitOne K (.ref D) (.ref C) = some false ∧ PySem.W.notFirst K C (.ref D) = true :=
  kit_cls' hd ht hs (by
    cases h : (Value.ref D == Value.ref C) with
    | false => rfl
    | true =>
      have e := eq_of_beq h
      injection e with e
      subst e
      rw [hz] at hs
      cases hs)

set_option genInjectivity false
set_option genSizeOf false
/-- what the top has left -/
structure TX (K : PySem.W.Frag) (mg : Str → Option Value) where
  a_write_utf8 : Addr
  d_write_utf8 : FuncData
  F_write_utf8 : Fun K "write_utf8" "write_utf8" s_write_utf8 a_write_utf8 d_write_utf8
  b_write_utf8 : Binds K d_write_utf8 ["text"] []
  g_write_utf8 : mg "write_utf8" = some (.ref a_write_utf8)
  a_read_utf8 : Addr
  d_read_utf8 : FuncData
  F_read_utf8 : Fun K "read_utf8" "read_utf8" s_read_utf8 a_read_utf8 d_read_utf8
  b_read_utf8 : Binds K d_read_utf8 ["data", "start", "stop"] []
  g_read_utf8 : mg "read_utf8" = some (.ref a_read_utf8)
  a_point_count : Addr
  d_point_count : FuncData
  F_point_count : Fun K "_point_count" "_point_count" s_point_count a_point_count d_point_count
  b_point_count : Binds K d_point_count ["point"] []
  g_point_count : mg "_point_count" = some (.ref a_point_count)
  a_least_first : Addr
  d_least_first : FuncData
  F_least_first : Fun K "_least_first" "_least_first" s_least_first a_least_first d_least_first
  b_least_first : Binds K d_least_first ["count"] []
  g_least_first : mg "_least_first" = some (.ref a_least_first)
  a_point_bytes : Addr
  d_point_bytes : FuncData
  F_point_bytes : Fun K "_point_bytes" "_point_bytes" s_point_bytes a_point_bytes d_point_bytes
  b_point_bytes : Binds K d_point_bytes ["point"] []
  g_point_bytes : mg "_point_bytes" = some (.ref a_point_bytes)
  a_count_told : Addr
  d_count_told : FuncData
  F_count_told : Fun K "_count_told" "_count_told" s_count_told a_count_told d_count_told
  b_count_told : Binds K d_count_told ["first"] []
  g_count_told : mg "_count_told" = some (.ref a_count_told)
  a_read_point : Addr
  d_read_point : FuncData
  F_read_point : Fun K "_read_point" "_read_point" s_read_point a_read_point d_read_point
  b_read_point : Binds K d_read_point ["data", "place", "count"] []
  g_read_point : mg "_read_point" = some (.ref a_read_point)
  a_little_bytes : Addr
  d_little_bytes : FuncData
  F_little_bytes : Fun K "little_bytes" "little_bytes" s_little_bytes a_little_bytes d_little_bytes
  b_little_bytes : Binds K d_little_bytes ["number", "count"] []
  g_little_bytes : mg "little_bytes" = some (.ref a_little_bytes)
  a_little_number : Addr
  d_little_number : FuncData
  F_little_number : Fun K "little_number" "little_number" s_little_number a_little_number d_little_number
  b_little_number : Binds K d_little_number ["data", "place", "count"] []
  g_little_number : mg "little_number" = some (.ref a_little_number)
  a_check_inside : Addr
  d_check_inside : FuncData
  F_check_inside : Fun K "check_inside" "check_inside" s_check_inside a_check_inside d_check_inside
  b_check_inside : Binds K d_check_inside ["place", "count", "stop"] []
  g_check_inside : mg "check_inside" = some (.ref a_check_inside)
  a_Comments_init : Addr
  d_Comments_init : FuncData
  F_Comments_init : Fun K "__init__" "Comments.__init__" s_Comments_init a_Comments_init d_Comments_init
  b_Comments_init : Binds K d_Comments_init ["self", "vendor", "entries"] []
  a_Comments_eq : Addr
  d_Comments_eq : FuncData
  F_Comments_eq : Fun K "__eq__" "Comments.__eq__" s_Comments_eq a_Comments_eq d_Comments_eq
  b_Comments_eq : Binds K d_Comments_eq ["self", "other"] []
  a_read_comments : Addr
  d_read_comments : FuncData
  F_read_comments : Fun K "read_comments" "read_comments" s_read_comments a_read_comments d_read_comments
  b_read_comments : Binds K d_read_comments ["data", "start", "stop"] []
  g_read_comments : mg "read_comments" = some (.ref a_read_comments)
  a_write_comments : Addr
  d_write_comments : FuncData
  F_write_comments : Fun K "write_comments" "write_comments" s_write_comments a_write_comments d_write_comments
  b_write_comments : Binds K d_write_comments ["comments"] []
  g_write_comments : mg "write_comments" = some (.ref a_write_comments)
  a_read_length : Addr
  d_read_length : FuncData
  F_read_length : Fun K "_read_length" "_read_length" s_read_length a_read_length d_read_length
  b_read_length : Binds K d_read_length ["data", "place", "stop"] []
  g_read_length : mg "_read_length" = some (.ref a_read_length)
  a_read_entry : Addr
  d_read_entry : FuncData
  F_read_entry : Fun K "_read_entry" "_read_entry" s_read_entry a_read_entry d_read_entry
  b_read_entry : Binds K d_read_entry ["data", "place", "stop"] []
  g_read_entry : mg "_read_entry" = some (.ref a_read_entry)
  a_law_is_integer : Addr
  d_law_is_integer : FuncData
  F_law_is_integer : Fun K "_law_is_integer" "_law_is_integer" s_law_is_integer a_law_is_integer d_law_is_integer
  b_law_is_integer : Binds K d_law_is_integer ["actual"] []
  g_law_is_integer : mg "_law_is_integer" = some (.ref a_law_is_integer)
  a_law_refill : Addr
  d_law_refill : FuncData
  F_law_refill : Fun K "_law_refill" "_law_refill" s_law_refill a_law_refill d_law_refill
  b_law_refill : Binds K d_law_refill ["script", "k"] []
  g_law_refill : mg "_law_refill" = some (.ref a_law_refill)
  a_law_draw : Addr
  d_law_draw : FuncData
  F_law_draw : Fun K "_law_draw" "_law_draw" s_law_draw a_law_draw d_law_draw
  b_law_draw : Binds K d_law_draw ["state", "script", "size"] []
  g_law_draw : mg "_law_draw" = some (.ref a_law_draw)
  a_law_junk : Addr
  d_law_junk : FuncData
  F_law_junk : Fun K "_law_junk" "_law_junk" s_law_junk a_law_junk d_law_junk
  b_law_junk : Binds K d_law_junk ["state", "script", "count"] []
  g_law_junk : mg "_law_junk" = some (.ref a_law_junk)
  a_law_is_bytes : Addr
  d_law_is_bytes : FuncData
  F_law_is_bytes : Fun K "_law_is_bytes" "_law_is_bytes" s_law_is_bytes a_law_is_bytes d_law_is_bytes
  b_law_is_bytes : Binds K d_law_is_bytes ["actual"] []
  g_law_is_bytes : mg "_law_is_bytes" = some (.ref a_law_is_bytes)
  a_law_text : Addr
  d_law_text : FuncData
  F_law_text : Fun K "_law_text" "_law_text" s_law_text a_law_text d_law_text
  b_law_text : Binds K d_law_text ["state", "script", "most"] []
  g_law_text : mg "_law_text" = some (.ref a_law_text)
  a_law_name : Addr
  d_law_name : FuncData
  F_law_name : Fun K "_law_name" "_law_name" s_law_name a_law_name d_law_name
  b_law_name : Binds K d_law_name ["state", "script"] []
  g_law_name : mg "_law_name" = some (.ref a_law_name)
  a_law_entries : Addr
  d_law_entries : FuncData
  F_law_entries : Fun K "_law_entries" "_law_entries" s_law_entries a_law_entries d_law_entries
  b_law_entries : Binds K d_law_entries ["state", "script", "most"] []
  g_law_entries : mg "_law_entries" = some (.ref a_law_entries)
  a_law_utf8 : Addr
  d_law_utf8 : FuncData
  F_law_utf8 : Fun K "_law_utf8" "_law_utf8" s_law_utf8 a_law_utf8 d_law_utf8
  b_law_utf8 : Binds K d_law_utf8 ["text"] []
  g_law_utf8 : mg "_law_utf8" = some (.ref a_law_utf8)
  a_law_little : Addr
  d_law_little : FuncData
  F_law_little : Fun K "_law_little" "_law_little" s_law_little a_law_little d_law_little
  b_law_little : Binds K d_law_little ["number"] []
  g_law_little : mg "_law_little" = some (.ref a_law_little)
  a_law_comment_bytes : Addr
  d_law_comment_bytes : FuncData
  F_law_comment_bytes : Fun K "_law_comment_bytes" "_law_comment_bytes" s_law_comment_bytes a_law_comment_bytes d_law_comment_bytes
  b_law_comment_bytes : Binds K d_law_comment_bytes ["vendor", "entries"] []
  g_law_comment_bytes : mg "_law_comment_bytes" = some (.ref a_law_comment_bytes)
  a_law_same : Addr
  d_law_same : FuncData
  F_law_same : Fun K "_law_same" "_law_same" s_law_same a_law_same d_law_same
  b_law_same : Binds K d_law_same ["actual", "vendor", "entries"] []
  g_law_same : mg "_law_same" = some (.ref a_law_same)
  a_law : Addr
  d_law : FuncData
  F_law : Fun K "law" "law" s_law a_law d_law
  b_law : Binds K d_law ["script"] []
  g_law : mg "law" = some (.ref a_law)
  C_Comments : Addr
  cl_Comments : Cls K C_Comments
  g_Comments : mg "Comments" = some (.ref C_Comments)
  M_Comments : Mk K C_Comments a_Comments_init
  me_Comments_eq : Meth K C_Comments "__eq__" a_Comments_eq
  n_Comments_vendor : NoAttr K C_Comments "vendor"
  n_Comments_entries : NoAttr K C_Comments "entries"
  ty_Comments : TyC K C_Comments
  ki_Comments_Comments : PySem.W.kitOne K (.ref C_Comments) (.ref C_Comments) = some true
  nf_Comments_Comments : PySem.W.notFirst K C_Comments (.ref C_Comments) = true
  ki_Comments_int : PySem.W.kitOne K (.type "int") (.ref C_Comments) = some false
  nf_Comments_int : PySem.W.notFirst K C_Comments (.type "int") = true
  ki_Comments_tuple : PySem.W.kitOne K (.type "tuple") (.ref C_Comments) = some false
  nf_Comments_tuple : PySem.W.notFirst K C_Comments (.type "tuple") = true
  ki_Comments_list : PySem.W.kitOne K (.type "list") (.ref C_Comments) = some false
  nf_Comments_list : PySem.W.notFirst K C_Comments (.type "list") = true
  m_range : mg "range" = none
  m_reversed : mg "reversed" = none
  m_list : mg "list" = none
  m_isinstance : mg "isinstance" = none
  m_len : mg "len" = none
  m_int : mg "int" = none
  m_bool : mg "bool" = none
  m_all : mg "all" = none
  m_tuple : mg "tuple" = none
  u_EQUALS : Value
  c_EQUALS : mg "_EQUALS" = some u_EQUALS
  r_EQUALS : RelV (.int (61)) u_EQUALS
section
variable {P : Program} {w : World} {K : PySem.W.Frag} {mg : Str → Option Value} {base : Heap}
/-! ### int(x), bits of a number -/
theorem Ev.is {σ : L2.St} {H : Hp} {te : TE} {x y : V} (h : Ev te σ H x) (e : x = y) : Ev te σ H y := e ▸ h
theorem ev_int1 {σ : L2.St} {H : Hp} {te : TE} {i : Int} (h : Ev te σ H (.int i)) : Ev (tCB (fun xs H Q => (∃ i, xs = [V.int i] ∧ Q (V.int i) H) ∨ ∃ k, xs = [V.bl k] ∧ Q (V.int (if k = true then 1 else 0)) H) (tCons te tNil)) σ H (.int i) :=
  ev_cb (ea_cons h ea_nil) fun H1 _ Q q => .inl ⟨i, rfl, q H1 (Ex.refl H1)⟩
theorem q_augR {σ : L2.St} {H : Hp} {te : TE} {D : Ends} {tz : TS} {i : Nat} {g : Int → Int → V} {a b : Int} (h1 : σ[i]? = some (some (.int a))) (h : Ev te σ H (.int b)) (k : ∀ H1, Ex H H1 → tz D (σ.set i (some (g a b))) H1) : tSeq (tAug i te (rI0 g)) tz D σ H :=
  ⟨_, h1, h H (Ex.refl H) _ fun H1 e => ⟨a, b, rfl, rfl, k H1 e⟩⟩
theorem s_augR {σ : L2.St} {H : Hp} {te : TE} {D : Ends} {i : Nat} {g : Int → Int → V} {a b : Int} (h1 : σ[i]? = some (some (.int a))) (h : Ev te σ H (.int b)) (k : ∀ H1, Ex H H1 → D.nx (σ.set i (some (g a b))) H1) : tAug i te (rI0 g) D σ H :=
  ⟨_, h1, h H (Ex.refl H) _ fun H1 e => ⟨a, b, rfl, rfl, k H1 e⟩⟩
theorem ev_atT {K : PySem.W.Frag} {σ : L2.St} {H : Hp} {tl ti : TE} {t : Addr} {xs : List V} {n : Int} {v : V} (h : Ev tl σ H (.ref t)) (hT : SqT K H t xs) (hi : Ev ti σ H (.int n)) (ha : atI xs n = some v) : Ev (tOp (rIxT K) tl ti) σ H v := fun H1 e Q q =>
  h H1 e _ fun H2 e2 => hi H2 (e.trans e2) _ fun H3 e3 => ⟨t, xs, n, v, rfl, rfl, ex_t ((e.trans e2).trans e3) hT, ha, q H3 (e2.trans e3)⟩
local macro_rules | `(tactic| walk_at "side") => `(tactic| first
  | omega
  | (show CDivW _ _; exact ⟨by omega, by decide⟩)
  | (show CDivW _ _; exact wide_div (b := 80) (by omega) (by omega) (by decide) (by decide)))
local macro_rules | `(tactic| walk_at "evown") => `(tactic| (refine' ev_int1 ?h1; (case h1 => walk_at "ev")))
/-- numbers from 0 on, as such -/
def cs (ds : List Nat) : List Int := ds.map fun d : Nat => (d : Int)
theorem cs_of {ns : List Int} {b : Int} (h : ∀ n ∈ ns, 0 ≤ n ∧ n < b) : ∃ ds : List Nat, ns = cs ds ∧ ds.length = ns.length ∧ ∀ d ∈ ds, (d : Int) < b := by
  refine ⟨ns.map Int.toNat, ?_, List.length_map .., fun d hd => ?_⟩
  · unfold cs
    rw [List.map_map]
    conv => lhs; rw [← List.map_id ns]
    refine List.map_congr_left fun n hn => ?_
    have := (h n hn).1
    show n = ((n.toNat : Nat) : Int)
    omega
  · obtain ⟨n, hn, rfl⟩ := List.mem_map.mp hd
    have := h n hn
    omega
theorem cs_len (ds : List Nat) : (cs ds).length = ds.length := List.length_map ..
theorem cs_at {ds : List Nat} {i : Nat} {d : Nat} (h : ds[i]? = some d) : (cs ds)[i]? = some (d : Int) := by unfold cs; rw [List.getElem?_map, h]; rfl
theorem cs_take (ds : List Nat) (i : Nat) : (cs ds).take i = cs (ds.take i) := by unfold cs; rw [List.map_take]
theorem cs_drop (ds : List Nat) (i : Nat) : (cs ds).drop i = cs (ds.drop i) := by unfold cs; rw [List.map_drop]
theorem cs_append (ds es : List Nat) : cs (ds ++ es) = cs ds ++ cs es := List.map_append ..

theorem ev_all {σ : L2.St} {H : Hp} {te : TE} {bs : List Bool} {b : Bool} (h : EvS K te σ H (bs.map V.bl)) (hb : bs.all id = b) : Ev (tCB (rAll K) (tCons te tNil)) σ H (.bl b) := fun H1 e Q q => h H1 e _ fun p H2 e2 hp => ⟨p, bs, rfl, hp, by rw [hb]; exact q H2 e2⟩

/-! ### from what is evaluated to what follows -/
theorem ev_go {te : TE} {σ : L2.St} {H : Hp} {v : V} {Q : VK} (h : Ev te σ H v) (k : ∀ H2, Ex H H2 → Q v H2) : te σ H Q := h H (Ex.refl H) Q k
theorem et_go {t : TT} {σ : L2.St} {H : Hp} {b : Bool} {Q : Bool → Hp → Prop} (h : EvT t σ H b) (k : ∀ H2, Ex H H2 → Q b H2) : t σ H Q := h H (Ex.refl H) Q k
theorem el_go {te : TE} {σ : L2.St} {H : Hp} {xs : List V} {Q : VK} (h : EvL te σ H xs) (k : ∀ p H2, H p = none → Ex H H2 → H2 p = some (.lst xs) → Q (.ref p) H2) : te σ H Q := h H (Ex.refl H) Q k
theorem eu_go {te : TE} {σ : L2.St} {H : Hp} {xs : List V} {Q : VK} (h : EvU te σ H xs) (k : ∀ p H2, H p = none → Ex H H2 → H2 p = some (.tup xs) → Q (.ref p) H2) : te σ H Q := h H (Ex.refl H) Q k
theorem ea_go {t : TA} {σ : L2.St} {H : Hp} {vs : List V} {Q : List V → Hp → Prop} (h : EvA t σ H vs) (k : ∀ H2, Ex H H2 → Q vs H2) : t σ H Q := h H (Ex.refl H) Q k
/-! ### the law's state, a list of two numbers, which draws change -/
theorem et_tru {σ : L2.St} {H : Hp} {te : TE} {a : Addr} {xs : List V} (h : Ev te σ H (.ref a)) (hs : SqL K H a xs) : EvT (fun σ H Q => te σ H fun x H' => ∃ k, TruV K x H' k ∧ Q k H') σ H (!xs.isEmpty) := fun H1 e Q q => h H1 e _ fun H2 e2 => ⟨_, .inl ⟨xs, ex_l (e.trans e2) hs, rfl⟩, q H2 e2⟩
def StAt (H : Hp) (s : Addr) : Prop := ∃ k c : Int, H s = some (.lst [.int k, .int c])
def Fr (s : Addr) (H H' : Hp) : Prop := (∀ b o, b ≠ s → H b = some o → H' b = some o) ∧ StAt H' s
theorem Fr.refl {s : Addr} {H : Hp} (st : StAt H s) : Fr s H H := ⟨fun _ _ _ h => h, st⟩
theorem Fr.ex {s : Addr} {H H' : Hp} (st : StAt H s) (e : Ex H H') : Fr s H H' := ⟨fun b o _ h => e b o h, by obtain ⟨k, c, h⟩ := st; exact ⟨k, c, e _ _ h⟩⟩
theorem Fr.trans {s : Addr} {H H1 H2 : Hp} (h : Fr s H H1) (g : Fr s H1 H2) : Fr s H H2 := ⟨fun b o n e => g.1 b o n (h.1 b o n e), g.2⟩
theorem Fr.tex {s : Addr} {H H1 H2 : Hp} (h : Fr s H H1) (e : Ex H1 H2) : Fr s H H2 := h.trans (Fr.ex h.2 e)
theorem Fr.fresh {s p : Addr} {H H' : Hp} (h : Fr s H H') (hp : H' p = none) : H p = none := by
  have hs : p ≠ s := by
    rintro rfl
    obtain ⟨k, c, g⟩ := h.2
    rw [g] at hp
    cases hp
  cases e : H p with
  | none => rfl
  | some o =>
    have := h.1 p o hs e
    rw [this] at hp
    cases hp
theorem ne_st {s p : Addr} {H : Hp} (st : StAt H s) (hp : H p = none) : p ≠ s := by
  rintro rfl
  obtain ⟨k, c, g⟩ := st
  rw [g] at hp
  cases hp
theorem Fr.mut {s p : Addr} {H H1 : Hp} {o : HO} (h : Fr s H H1) (hp : H p = none) (hs : p ≠ s) : Fr s H (upd H1 p o) := ⟨fun b u n e => by rw [upd_ne (ne_of_none e hp)]; exact h.1 b u n e, by obtain ⟨k, c, g⟩ := h.2; exact ⟨k, c, by rw [upd_ne (Ne.symm hs)]; exact g⟩⟩
theorem Fr.l {s a : Addr} {H H' : Hp} {xs : List V} (h : Fr s H H') (hs : a ≠ s) (q : H a = some (.lst xs)) : H' a = some (.lst xs) := h.1 a _ hs q
/-- a list, seen through all draws -/
def Scr (K : PySem.W.Frag) (s a : Addr) (H : Hp) (xs : List V) : Prop := ∀ H', Fr s H H' → SqL K H' a xs
theorem scr_mk {s a : Addr} {H H1 : Hp} {xs : List V} (hs : H s = none) (e : Ex H H1) (q : SqL K H a xs) : Scr K s a H1 xs := fun H' fr => by
  rcases q with q | q
  · rcases q with q | ⟨o, q⟩
    · exact .inl (.inl (fr.1 _ _ (ne_of_none q hs) (e _ _ q)))
    · exact .inl (.inr ⟨o, fr.1 _ _ (ne_of_none q hs) (e _ _ q)⟩)
  · exact .inr q
def DrS (K : PySem.W.Frag) (H : Hp) (s a : Addr) (ns : List Int) : Prop := StAt H s ∧ Scr K s a H (ns.map V.int)
theorem DrS.fr {H H' : Hp} {s a : Addr} {ns : List Int} (h : DrS K H s a ns) (f : Fr s H H') : DrS K H' s a ns := ⟨f.2, fun H2 g => h.2 H2 (f.trans g)⟩
theorem DrS.ex {H H' : Hp} {s a : Addr} {ns : List Int} (h : DrS K H s a ns) (e : Ex H H') : DrS K H' s a ns := h.fr (Fr.ex h.1 e)
theorem DrS.sq {H : Hp} {s a : Addr} {ns : List Int} (h : DrS K H s a ns) : SqL K H a (ns.map V.int) := h.2 H (Fr.refl h.1)
/-! numbers, tests that draw on the way -/
def EvI (s : Addr) (te : TE) (σ : L2.St) (H : Hp) (p : Int → Prop) : Prop := ∀ Q : VK, (∀ i H2, Fr s H H2 → p i → Q (.int i) H2) → te σ H Q
def EvTW (s : Addr) (t : TT) (σ : L2.St) (H : Hp) (p : Bool → Prop) : Prop := ∀ Q : Bool → Hp → Prop, (∀ b H2, Fr s H H2 → p b → Q b H2) → t σ H Q
section
variable {s : Addr} {σ : L2.St} {H : Hp} {ta tb te : TE} {p q : Int → Prop}
theorem wi_ev {i : Int} (st : StAt H s) (h : Ev te σ H (.int i)) : EvI s te σ H (fun z => z = i) := fun Q q => h H (Ex.refl H) _ fun H2 e2 => q i H2 (Fr.ex st e2) rfl
theorem wi_imp {p q : Int → Prop} (h : EvI s te σ H p) (hi : ∀ z, p z → q z) : EvI s te σ H q := fun Q k => h Q fun i H2 f hp => k i H2 f (hi i hp)
theorem wi_op {g : Int → Int → Int} (ha : EvI s ta σ H p) (hb : ∀ H1, Fr s H H1 → EvI s tb σ H1 q) : EvI s (tOp (rI0 fun i j => .int (g i j)) ta tb) σ H (fun z => ∃ i j, p i ∧ q j ∧ z = g i j) := fun Q k =>
  ha _ fun i H1 f1 hp => hb H1 f1 _ fun j H2 f2 hq => ⟨i, j, rfl, rfl, k _ H2 (f1.trans f2) ⟨i, j, hp, hq, rfl⟩⟩
theorem wi_opC {C : Int → Int → Prop} {g : Int → Int → Int} (ha : EvI s ta σ H p) (hb : ∀ H1, Fr s H H1 → EvI s tb σ H1 q) (hc : ∀ i j, p i → q j → C i j) : EvI s (tOp (rI C fun i j => .int (g i j)) ta tb) σ H (fun z => ∃ i j, p i ∧ q j ∧ z = g i j) := fun Q k =>
  ha _ fun i H1 f1 hp => hb H1 f1 _ fun j H2 f2 hq => ⟨i, j, rfl, rfl, hc i j hp hq, k _ H2 (f1.trans f2) ⟨i, j, hp, hq, rfl⟩⟩
theorem wt_cmp {g : Int → Int → Bool} (ha : EvI s ta σ H p) (hb : ∀ H1, Fr s H H1 → EvI s tb σ H1 q) : EvTW s (tTest (tOp (rI0 fun i j => .bl (g i j)) ta tb)) σ H (fun b => ∃ i j, p i ∧ q j ∧ b = g i j) := fun Q k =>
  ha _ fun i H1 f1 hp => hb H1 f1 _ fun j H2 f2 hq => ⟨i, j, rfl, rfl, g i j, rfl, k _ H2 (f1.trans f2) ⟨i, j, hp, hq, rfl⟩⟩
theorem wt_eq (ha : EvI s ta σ H p) (hb : ∀ H1, Fr s H H1 → EvI s tb σ H1 q) : EvTW s (tTest (tOp rEq ta tb)) σ H (fun b => ∃ i j, p i ∧ q j ∧ b = decide (i = j)) := fun Q k =>
  ha _ fun i H1 f1 hp => hb H1 f1 _ fun j H2 f2 hq => ⟨rfl, decide (V.int i = V.int j), rfl, k _ H2 (f1.trans f2) ⟨i, j, hp, hq, by simp⟩⟩
theorem wt_ev {t : TT} {b : Bool} (st : StAt H s) (h : EvT t σ H b) : EvTW s t σ H (fun z => z = b) := fun Q q => h H (Ex.refl H) _ fun H2 e2 => q b H2 (Fr.ex st e2) rfl
theorem wt_and {t u : TT} {p q : Bool → Prop} (h1 : EvTW s t σ H p) (h2 : ∀ H1, Fr s H H1 → p true → EvTW s u σ H1 q) : EvTW s (tAnd t u) σ H (fun b => (p false ∧ b = false) ∨ (p true ∧ q b)) := fun Q k => h1 _ fun b H1 f1 hb => by
  cases b with
  | true => exact h2 H1 f1 hb _ fun c H2 f2 hc => k c H2 (f1.trans f2) (.inr ⟨hb, hc⟩)
  | false => exact k false H1 f1 (.inl ⟨hb, rfl⟩)
theorem wt_not {t : TT} {p : Bool → Prop} (h1 : EvTW s t σ H p) : EvTW s (tNot t) σ H (fun b => p (!b)) := fun Q k => h1 _ fun b H1 f1 hb => k (!b) H1 f1 (by show p (!!b); rw [Bool.not_not]; exact hb)
variable {D : Ends} {tz tu : TS}
theorem qw_asg {j : Nat} (h : EvI s te σ H p) (k : ∀ i H1, Fr s H H1 → p i → tz D (σ.set j (some (.int i))) H1) : tSeq (tAsg te (gName j)) tz D σ H := h _ k
theorem sw_asg {j : Nat} (h : EvI s te σ H p) (k : ∀ i H1, Fr s H H1 → p i → D.nx (σ.set j (some (.int i))) H1) : tAsg te (gName j) D σ H := h _ k
theorem sw_ret (h : EvI s te σ H p) (k : ∀ i H1, Fr s H H1 → p i → D.rt (.int i) H1) : tRet te D σ H := h _ k
theorem qw_when {t : TT} {p : Bool → Prop} (h : EvTW s t σ H p) (h1 : p true → ∀ H1, Fr s H H1 → tu { D with nx := tz D } σ H1) (h2 : p false → ∀ H1, Fr s H H1 → tz D σ H1) : tSeq (tIfS t tu tNext) tz D σ H := h _ fun b H1 f hb => by
  cases b with
  | true => exact h1 hb H1 f
  | false => exact h2 hb H1 f
theorem sw_when {t : TT} {p : Bool → Prop} (h : EvTW s t σ H p) (h1 : p true → ∀ H1, Fr s H H1 → tu D σ H1) (h2 : p false → ∀ H1, Fr s H H1 → D.nx σ H1) : tIfS t tu tNext D σ H := h _ fun b H1 f hb => by
  cases b with
  | true => exact h1 hb H1 f
  | false => exact h2 hb H1 f
theorem sw_if {t : TT} {tw : TS} {p : Bool → Prop} (h : EvTW s t σ H p) (h1 : p true → ∀ H1, Fr s H H1 → tu D σ H1) (h2 : p false → ∀ H1, Fr s H H1 → tw D σ H1) : tIfS t tu tw D σ H := h _ fun b H1 f hb => by
  cases b with
  | true => exact h1 hb H1 f
  | false => exact h2 hb H1 f
theorem qw_forR1 {j : Nat} (h : EvI s te σ H p) (hp : ∀ i, p i → 0 ≤ i ∧ i ≤ 100000) (Pv : Int → Nat → L2.St → Hp → Prop) (h0 : ∀ n H1, p n → Fr s H H1 → Pv n 0 σ H1)
    (hs : ∀ n (i : Nat) σ' H', p n → (i : Int) < n → Pv n i σ' H' → tu { D with nx := Pv n (i + 1), ct := Pv n (i + 1), bk := tz D } (σ'.set j (some (.int (i : Int)))) H') (hd : ∀ n σ' H', p n → Pv n n.toNat σ' H' → tz D σ' H') : tSeq (tFor (iRng1 (tCons te tNil)) (gName j) tu) tz D σ H :=
  h _ fun n H1 f hn => ⟨n, rfl, by have := hp n hn; omega, by have := hp n hn; omega, for_range (D := { D with nx := tz D }) (lo := 0) (n := n.toNat) (Pv n) (h0 n H1 hn f) (fun i σ' H' hi q => by
    have e0 : (0 : Int) + (i : Int) = (i : Int) := Int.zero_add _
    show tu { D with nx := Pv n (i + 1), ct := Pv n (i + 1), bk := tz D } (σ'.set j (some (.int ((0 : Int) + (i : Int))))) H'
    rw [e0]
    exact hs n i σ' H' hn (by have := hp n hn; omega) q) fun σ' H' q => hd n σ' H' hn q⟩
end
/-- [e for j in range(n)] whose element draws -/
theorem tlc_rngW {ta : TA} {te : TE} {vs : List Nat} {n : Int} {j : Nat} {σ : L2.St} {H : Hp} {Q : VK} (h : EvA ta σ H [.int n]) (hn : -100000 ≤ n ∧ n ≤ 100000)
    (k : ∀ H1, Ex H H1 → ∀ Dl, H1 Dl = none → ∃ Pv : Nat → Hp → Prop, Pv 0 (upd H1 Dl (.lst [])) ∧ (∀ (i : Nat) H', i < n.toNat → Pv i H' → wipe ((wipe σ vs).set j (some (.int (i : Int)))) vs = wipe σ vs ∧ te ((wipe σ vs).set j (some (.int (i : Int)))) H' fun y H4 => ∃ acc, H4 Dl = some (.lst acc) ∧ acc.length < sizeLine ∧ Pv (i + 1) (upd H4 Dl (.lst (acc ++ [y])))) ∧ (∀ H', Pv n.toNat H' → Q (.ref Dl) H')) :
    tLc (iRng1 ta) (gName j) tYes te vs σ H Q := h H (Ex.refl H) _ fun H1 e1 => ⟨n, rfl, by omega, by omega, fun Dl hD => by
  obtain ⟨Pv, h0, hs, hd⟩ := k H1 e1 Dl hD
  refine lc_range (lo := 0) (n := n.toNat) Pv h0 (fun i H' hi p => ?_) hd
  rw [Int.zero_add]
  exact hs i H' hi p⟩
/-- xs[j] = e, e of a kind -/
theorem q_setLR {σ : L2.St} {H : Hp} {te ta tb : TE} {l : Addr} {xs : List V} {j : Nat} {D : Ends} {tz : TS} {P : V → Prop} (h : ∀ Q : VK, (∀ v H1, Ex H H1 → P v → Q v H1) → te σ H Q) (hl : H l = some (.lst xs)) (ho : ∀ H1, Ev ta σ H1 (.ref l)) (hi : ∀ H1, Ev tb σ H1 (.int (j : Int))) (hj : j < xs.length) (k : ∀ v H1, P v → Ex H H1 → tz D σ (upd H1 l (.lst (xs.set j v)))) : tSeq (tAsg te (gSub ta tb rSetL)) tz D σ H :=
  h _ fun v H1 e1 hv => ho H1 H1 (Ex.refl _) _ fun H2 e2 => hi H2 H2 (Ex.refl _) _ fun H3 e3 => ⟨l, xs, (j : Int), j, rfl, rfl, ((e1.trans e2).trans e3) l _ hl, ixN_nat hj, k v H3 hv ((e1.trans e2).trans e3)⟩
/-! ### the law's draws -/

def sp_isint : Sp := fun vs H Q _ => ∃ n : Int, vs = [.int n] ∧ RetV (.bl true) H Q
theorem ok_law_is_integer (T : TX K mg) : FnOk P w K mg base CX0 1 T.a_law_is_integer T.d_law_is_integer ["actual"] sp_isint := by
  refine T.F_law_is_integer.ok sc_law_is_integer (fun vs H Q E h => by obtain ⟨n, rfl, _⟩ := h; rfl) (fun cdv A outer s H vs Q E hr h => ?_)
  obtain ⟨n, rfl, k⟩ := h
  refine ⟨_, (pss_one (ps_ret (pe_and (pe_callB (r := rIsi K) call_isi (by rfl) T.m_isinstance PyProof.Rows.boot_isinstance (pa_cons (pv 0) (pa_cons (pe_bltn (v := V.ty "int") (by rfl) T.m_int PyProof.Rows.boot_int rfl) pa_nil))) (pe_one (pe_not (pe_callB (r := rIsi K) call_isi (by rfl) T.m_isinstance PyProof.Rows.boot_isinstance (pa_cons (pv 0) (pa_cons (pe_bltn (v := V.ty "bool") (by rfl) T.m_bool PyProof.Rows.boot_bool rfl) pa_nil)))))))), ?_⟩
  walk_at "ret"
  intro H2 e2
  exact ret_eq k e2 rfl
theorem ev_isint {σ : L2.St} {H : Hp} {te : TE} {E : XK} {n : Int} (h : Ev te σ H (.int n)) : Ev (tCall sp_isint [] E (tCons te tNil)) σ H (.bl true) := ev_call (ea_cons h ea_nil) fun H1 _ Q q _ => ⟨n, rfl, q⟩

def sp_refill (K : PySem.W.Frag) : Sp := fun vs H Q _ => ∃ (a : Addr) (ns : List Int) (k : Int), vs = [.ref a, .int k] ∧ SqL K H a (ns.map V.int) ∧ ∀ c : Int, RetV (.int c) H Q
theorem ok_law_refill (T : TX K mg) : FnOk P w K mg base CX0 1 T.a_law_refill T.d_law_refill ["script", "k"] (sp_refill K) := by
  refine T.F_law_refill.ok sc_law_refill (fun vs H Q E h => by obtain ⟨a, ns, k, rfl, _⟩ := h; rfl) (fun cdv A outer s0 H vs Q E hr h => ?_)
  obtain ⟨a, ns, k, rfl, hS, q⟩ := h
  refine ⟨_, (pss_cons (ps_set (i := 2) sc_law_refill.nd rfl (Or.inl rfl) pe_int)
      (pss_cons (ps_if (pt_truth (pv 0) (by intro _; rfl)) (pss_one (ps_set (i := 2) sc_law_refill.nd rfl (Or.inl rfl) (pe_ix (r := rIxL K) ix_list (pv 0) (pe_op op_mod (pv 1) (pe_callB (r := rLenS K) call_len_seq (by rfl) T.m_len PySem.boot_len (pa_cons (pv 0) pa_nil))) (fun _ _ => rfl)))) pss_nil)
      (pss_cons (ps_if (pt_cmpR op_lt (pv 2) pe_int (nomark _)) (pss_one (ps_set (i := 2) sc_law_refill.nd rfl (Or.inl rfl) (pe_op op_sub pe_int (pe_op op_mul pe_int (pv 2))))) pss_nil)
      (pss_cons (ps_if (PW.pt (pw_and (pt_cmpR op_ge (pv 2) (pe_op op_pow pe_int pe_int) (nomark _)) (pw_and1 (pt_cmpR op_lt (pv 1) (pe_callB (r := rLenS K) call_len_seq (by rfl) T.m_len PySem.boot_len (pa_cons (pv 0) pa_nil)) (nomark _))))) (pss_one (ps_ret (pv 2))) pss_nil)
      (pss_one (ps_ret (pe_op op_mod (pe_callTy call_int1 (by rfl) T.m_int PyProof.Rows.boot_int (pa_cons (pe_op op_add (pe_op op_mul (pe_callTy call_int1 (by rfl) T.m_int PyProof.Rows.boot_int (pa_cons (pe_op op_add (pe_op op_add (pe_op op_mul (pv 2) pe_int) (pe_op op_mul (pv 1) pe_int)) pe_int) pa_nil)) pe_int) pe_int) pa_nil)) pe_int))))))), ?_⟩
  refine q_asg ev_c fun H1 e1 => ?_
  have hl : (ns.map V.int).length = ns.length := List.length_map ..
  have rest : ∀ (c : Int) (H2 : Hp), Ex H H2 → tSeq (tIfS (tTest (tOp (rI0 fun i j => .bl (decide (i < j))) (tVar 2) (tC (.int 0)))) (tAsg (tOp (rI0 fun i j => .int (i - j)) (tC (.int 1)) (tOp (rI CMul fun i j => .int (i * j)) (tC (.int 2)) (tVar 2))) (gName 2)) tNext) (tSeq (tIfS (tAnd (tTest (tOp (rI0 fun i j => .bl (decide (j ≤ i))) (tVar 2) (tOp (rI CPow fun i j => .int (i ^ j.toNat)) (tC (.int 10)) (tC (.int 18))))) (tTest (tOp (rI0 fun i j => .bl (decide (i < j))) (tVar 1) (tCB (rLenS K) (tCons (tVar 0) tNil))))) (tRet (tVar 2)) tNext) (tRet (tOp (rI (fun _ j => 0 < j) fun i j => .int (i % j)) (tCB (fun xs H Q => (∃ i, xs = [V.int i] ∧ Q (V.int i) H) ∨ ∃ k, xs = [V.bl k] ∧ Q (V.int (if k = true then 1 else 0)) H) (tCons (tOp (rI0 fun i j => .int (i + j)) (tOp (rI CMul fun i j => .int (i * j)) (tCB (fun xs H Q => (∃ i, xs = [V.int i] ∧ Q (V.int i) H) ∨ ∃ k, xs = [V.bl k] ∧ Q (V.int (if k = true then 1 else 0)) H) (tCons (tOp (rI0 fun i j => .int (i + j)) (tOp (rI0 fun i j => .int (i + j)) (tOp (rI CMul fun i j => .int (i * j)) (tVar 2) (tC (.int 48271))) (tOp (rI CMul fun i j => .int (i * j)) (tVar 1) (tC (.int 69621)))) (tC (.int 12345))) tNil)) (tC (.int 40692))) (tC (.int 7))) tNil)) (tC (.int 2147483399))))) { nx := fun _ H' => Q .non H', rt := Q } [some (.ref a), some (.int k), some (.int c)] H2 := fun c H2 e2 => by
    obtain ⟨c1, hc1⟩ : ∃ c1 : Int, (if c < 0 then 1 - 2 * c else c) = c1 := ⟨_, rfl⟩
    refine q_ifAsg (b := decide (c < 0)) (v := .int c1) (et_test (ev_I0 (ev_var rfl) ev_c)) (fun h => Ev.is (ev_I0 ev_c (ev_I ev_c (ev_var rfl) (.inl (by decide)))) (congrArg V.int (by rw [← hc1, if_pos (of_decide_eq_true h)]))) (fun h => by rw [← hc1, if_neg (of_decide_eq_false h)]; rfl) fun H3 e3 => ?_
    refine q_when (et_and (et_test (ev_I0 (ev_var rfl) (ev_I ev_c ev_c ⟨by decide, by decide, by decide⟩))) fun _ => et_test (ev_I0 (ev_var rfl) (ev_lenS (Ev.s (ev_var rfl) (ex_l (e2.trans e3) hS))))) (fun _ H4 e4 => ?_) (fun _ H4 e4 => ?_)
    · exact s_ret (ev_var rfl) fun H5 e5 => (q _).go ((e2.trans e3).trans (e4.trans e5))
    · exact s_ret (ev_I (ev_int1 (ev_I0 (ev_I (ev_int1 (ev_I0 (ev_I0 (ev_I (ev_var rfl) ev_c (.inr (by decide))) (ev_I (ev_var rfl) ev_c (.inr (by decide)))) ev_c)) ev_c (.inr (by decide))) ev_c)) ev_c (by decide)) fun H5 e5 => (q _).go ((e2.trans e3).trans (e4.trans e5))
  refine q_when (et_tru (ev_var rfl) (ex_l e1 hS)) (fun hb H2 e2 => ?_) (fun _ H2 e2 => rest 0 H2 (e1.trans e2))
  have h0 : 0 < ns.length := by
    cases ns with
    | nil => cases hb
    | cons x r => rw [List.length_cons]; omega
  have h1 := Int.emod_nonneg k (show (ns.length : Int) ≠ 0 by omega)
  have h2 := Int.emod_lt_of_pos k (show (0 : Int) < ns.length by omega)
  refine s_asg (v := .int (ns.getD (k % (ns.length : Int)).toNat 0)) (ev_ixS (i := 0) (n := k % (ns.length : Int)) (Ev.s (ev_var rfl) (ex_l (e1.trans e2) hS)) (ev_I (ev_var rfl) (Ev.is (ev_lenS (Ev.s (ev_var rfl) (ex_l (e1.trans e2) hS))) (by rw [hl])) (by omega)) (at_of (j := (k % (ns.length : Int)).toNat) (by omega) (at_int (gl_get (by omega))))) fun H3 e3 => rest _ H3 (e1.trans (e2.trans e3))
def sp_draw (K : PySem.W.Frag) : Sp := fun vs H Q _ => ∃ (s a : Addr) (ns : List Int) (n : Int), vs = [.ref s, .ref a, .int n] ∧ DrS K H s a ns ∧ 0 < n ∧ n ≤ 2 ^ 80 ∧ ∀ (d : Nat) H', (d : Int) < n → Fr s H H' → Q (.int (d : Int)) H'
theorem ok_law_draw (T : TX K mg) : FnOk P w K mg base CX0 2 T.a_law_draw T.d_law_draw ["state", "script", "size"] (sp_draw K) := by
  refine T.F_law_draw.ok sc_law_draw (fun vs H Q E h => by obtain ⟨s, a, ns, n, rfl, _⟩ := h; rfl) (fun cdv A outer s0 H vs Q E hr h => ?_)
  obtain ⟨s, a, ns, n, rfl, hd, hn0, hn, k⟩ := h
  have hn' : n ≤ 1208925819614629174706176 := hn
  have hlog : n.natAbs.log2 < 9000 := by
    have : n.natAbs < 2 ^ 81 := by omega
    have := (Nat.log2_lt (n := n.natAbs) (k := 81) (by omega)).mpr this
    omega
  refine ⟨_, (pss_cut (ps_if (pt_cmpR op_eq (pe_ix (r := rIxL K) ix_list (pv 0) pe_int (fun _ _ => rfl)) pe_int (nomark _)) (pss_cons (ps_asg (pe_call (ok_law_refill T) (hr.mono (by decide)) (by rfl) T.g_law_refill T.F_law_refill.kp T.b_law_refill .nil pass0 (pa_cons (pv 1) (pa_cons (pe_ix (r := rIxL K) ix_list (pv 0) pe_int (fun _ _ => rfl)) pa_nil))) (pg_sub (pv 0) pe_int set_list))
        (pss_one (ps_asg (pe_op op_add (pe_ix (r := rIxL K) ix_list (pv 0) pe_int (fun _ _ => rfl)) pe_int) (pg_sub (pv 0) pe_int set_list)))) pss_nil)
      (pss_cons (ps_set (i := 3) sc_law_draw.nd rfl (Or.inl rfl) (pe_op op_mod (pe_callTy call_int1 (by rfl) T.m_int PyProof.Rows.boot_int (pa_cons (pe_ix (r := rIxL K) ix_list (pv 0) pe_int (fun _ _ => rfl)) pa_nil)) (pv 2)))
      (pss_cons (ps_asg (pe_op op_fdivW (pe_ix (r := rIxL K) ix_list (pv 0) pe_int (fun _ _ => rfl)) (pv 2)) (pg_sub (pv 0) pe_int set_list))
      (pss_one (ps_ret (pv 3)))))), ?_⟩
  refine q_cut (M := fun σ' H' => ∃ kk cc : Int, σ' = [some (.ref s), some (.ref a), some (.int n), none] ∧ (∀ b o, b ≠ s → H b = some o → H' b = some o) ∧ H' s = some (.lst [.int kk, .int cc])) ?_ ?_
  · obtain ⟨kk, cc, g⟩ := hd.1
    refine s_when (et_test (ev_eq (ev_ixS (i := 0) (n := 1) (Ev.s (ev_var rfl) (sq_of g)) ev_c (at_of (j := 1) rfl rfl)) ev_c rfl)) (fun _ H1 e1 => ?_) (fun _ H1 e1 => ⟨kk, cc, rfl, fun b o _ h => e1 b o h, e1 _ _ g⟩)
    have g1 := e1 _ _ g
    refine q_setLR (l := s) (xs := [.int kk, .int cc]) (j := 1) (P := fun v => ∃ c : Int, v = .int c) (fun Q' q' => (ea_cons (ev_var rfl) (ea_cons (ev_ixS (K := K) (i := 0) (n := 0) (v := .int kk) (xs := [.int kk, .int cc]) (Ev.s (ev_var rfl) (sq_of g1)) ev_c (at_of (j := 0) rfl rfl)) ea_nil)) H1 (Ex.refl _) _ fun H2 e2 => ⟨a, ns, kk, rfl, (hd.ex (e1.trans e2)).sq, fun c H3 e3 => q' _ _ (e2.trans e3) ⟨c, rfl⟩⟩) g1 (fun _ => ev_var rfl) (fun _ => ev_c) (Nat.le_of_ble_eq_true rfl) fun v H2 hv e2 => ?_
    obtain ⟨c, rfl⟩ := hv
    have u2 : (upd H2 s (.lst [V.int kk, V.int c])) s = some (.lst [V.int kk, V.int c]) := upd_same
    refine s_setL (l := s) (j := 0) (v := .int (kk + 1)) u2 (ev_I0 (ev_ixS (i := 0) (n := 0) (Ev.s (ev_var rfl) (sq_of u2)) ev_c (at_of (j := 0) rfl rfl)) ev_c) (ev_var rfl) ev_c (Nat.le_of_ble_eq_true rfl) fun H3 e3 => ⟨kk + 1, c, rfl, fun b o hb h => ?_, upd_same⟩
    rw [upd_ne hb]
    exact e3 _ _ (by rw [upd_ne hb]; exact e2 _ _ (e1 _ _ h))
  · rintro σ' H1 ⟨kk, cc, rfl, fr, g⟩
    have h0 := Int.emod_nonneg cc (show n ≠ 0 by omega)
    have h1 := Int.emod_lt_of_pos cc hn0
    obtain ⟨d, hd'⟩ : ∃ d : Nat, cc % n = (d : Int) := ⟨(cc % n).toNat, by omega⟩
    refine q_asg (v := .int (d : Int)) (Ev.is (ev_I (ev_int1 (ev_ixS (i := 0) (n := 1) (Ev.s (ev_var rfl) (sq_of g)) ev_c (at_of (j := 1) rfl rfl))) (ev_var rfl) hn0) (congrArg V.int hd')) fun H2 e2 => ?_
    refine q_setL (l := s) (j := 1) (v := .int (cc / n)) (e2 _ _ g) (ev_I (ev_ixS (i := 0) (n := 1) (Ev.s (ev_var rfl) (sq_of (e2 _ _ g))) ev_c (at_of (j := 1) rfl rfl)) (ev_var rfl) ⟨hn0, hlog⟩) (ev_var rfl) ev_c (Nat.le_of_ble_eq_true rfl) fun H3 e3 => ?_
    refine s_ret (v := .int (d : Int)) (ev_var rfl) fun H4 e4 => k d H4 (by omega) ⟨fun b o hb h => e4 _ _ (by rw [upd_ne hb]; exact e3 _ _ (e2 _ _ (fr b o hb h))), ⟨kk, cc / n, e4 _ _ upd_same⟩⟩
theorem wi_draw {s a : Addr} {ns : List Int} {σ : L2.St} {H : Hp} {tn : TE} {E : XK} {n : Int} {i j : Nat} (hd : DrS K H s a ns) (h1 : σ[i]? = some (some (.ref s))) (h2 : σ[j]? = some (some (.ref a))) (h3 : Ev tn σ H (.int n)) (h0 : 0 < n) (hn : n ≤ 2 ^ 80) :
    EvI s (tCall (sp_draw K) [] E (tCons (tVar i) (tCons (tVar j) (tCons tn tNil)))) σ H (fun z => ∃ d : Nat, z = (d : Int) ∧ (d : Int) < n) := fun Q q =>
  (ea_cons (ev_var h1) (ea_cons (ev_var h2) (ea_cons h3 ea_nil))) H (Ex.refl _) _ fun H1 e1 => ⟨s, a, ns, n, rfl, hd.ex e1, h0, hn, fun d H2 hdn f => q _ H2 ((Fr.ex hd.1 e1).trans f) ⟨d, rfl, hdn⟩⟩

def sp_junk (K : PySem.W.Frag) : Sp := fun vs H Q _ => ∃ (s a : Addr) (ns : List Int) (m : Nat), vs = [.ref s, .ref a, .int (m : Int)] ∧ DrS K H s a ns ∧ m ≤ 1000 ∧ ∀ p (ds : List Nat) H', H p = none → Fr s H H' → H' p = some (.lst ((cs ds).map V.int)) → ds.length = m → (∀ d ∈ ds, d < 256) → Q (.ref p) H'
theorem ok_law_junk (T : TX K mg) : FnOk P w K mg base CX0 3 T.a_law_junk T.d_law_junk ["state", "script", "count"] (sp_junk K) := by
  refine T.F_law_junk.ok sc_law_junk (fun vs H Q E h => by obtain ⟨s, a, ns, m, rfl, _⟩ := h; rfl) (fun cdv A outer s0 H vs Q E hr h => ?_)
  obtain ⟨s, a, ns, m, rfl, hd, hm, k⟩ := h
  refine ⟨_, (pss_one (ps_ret (pe_lc (own := [("k", 3)]) (g := gName 3) (tt := tYes) rfl sc_law_junk.nd (pi_range1 (by rfl) T.m_range (pa_cons (pv 2) pa_nil)) (blkOk_by (N := ["state", "script", "count", "k"]) (sc := defScope s_law_junk) (by decide +kernel)) (fun _ _ _ _ _ => pg_name (i := 3) sc_law_junk.nd rfl (Or.inl rfl)) (fun _ _ _ _ _ => pts_nil) (fun _ _ _ _ _ => (pe_call (ok_law_draw T) (hr.mono (by decide)) (by rfl) T.g_law_draw T.F_law_draw.kp T.b_law_draw .nil pass0 (pa_cons (pv 0) (pa_cons (pv 1) (pa_cons pe_int pa_nil)))))))), ?_⟩
  refine tlc_rngW (n := (m : Int)) (ea_cons (ev_var rfl) ea_nil) (by omega) fun H1 e1 Dl hD => ⟨fun i H' => ∃ ds : List Nat, Fr s H H' ∧ H' Dl = some (.lst ((cs ds).map V.int)) ∧ ds.length = i ∧ ∀ d ∈ ds, d < 256, ⟨[], ?_, upd_same, rfl, fun d hd => by cases hd⟩, ?_, ?_⟩
  · exact Fr.ex hd.1 (Ex.mut e1 (fresh_back e1 hD))
  · rintro i H' hi ⟨ds, f, g, hl, hb⟩
    have hi : i < m := by omega
    have hDs : Dl ≠ s := ne_st hd.1 (fresh_back e1 hD)
    refine ⟨rfl, wi_draw (hd.fr f) rfl rfl ev_c (by decide) (by decide) _ fun z H2 f2 hz => ?_⟩
    obtain ⟨d, rfl, hdn⟩ := hz
    refine ⟨(cs ds).map V.int, f2.l hDs g, sz_lt (by rw [List.length_map, cs_len]; omega), ds ++ [d], (f.trans f2).mut (fresh_back e1 hD) hDs, ?_, by rw [List.length_append, hl]; rfl, fun y hy => ?_⟩
    · rw [upd_same, cs_append, List.map_append]
      rfl
    · rcases List.mem_append.mp hy with h | h
      · exact hb y h
      · rw [List.mem_singleton.mp h]
        omega
  · rintro H' ⟨ds, f, g, hl, hb⟩
    exact k Dl ds H' (fresh_back e1 hD) f g (by omega) hb

def sp_isbytes (K : PySem.W.Frag) : Sp := fun vs H Q _ => ∃ (p : Addr) (ds : List Nat), vs = [.ref p] ∧ H p = some (.lst ((cs ds).map V.int)) ∧ ds.length ≤ 40000 ∧ (∀ d ∈ ds, d < 256) ∧ RetV (.bl true) H Q
theorem ok_law_is_bytes (T : TX K mg) : FnOk P w K mg base CX0 2 T.a_law_is_bytes T.d_law_is_bytes ["actual"] (sp_isbytes K) := by
  refine T.F_law_is_bytes.ok sc_law_is_bytes (fun vs H Q E h => by obtain ⟨p, ds, rfl, _⟩ := h; rfl) (fun cdv A outer s0 H vs Q E hr h => ?_)
  obtain ⟨p, ds, rfl, hp, hl, hb, k⟩ := h
  refine ⟨_, (pss_cons (ps_if (pt_not (pt_val (pe_callB (r := rIsi K) call_isi (by rfl) T.m_isinstance PyProof.Rows.boot_isinstance (pa_cons (pv 0) (pa_cons (pe_bltn (v := V.ty "list") (by rfl) T.m_list PyProof.Rows.boot_list rfl) pa_nil))))) (pss_one (ps_ret pe_bl)) pss_nil)
      (pss_one (ps_ret (pe_callB (r := rAll K) (cr_all rfl) (by rfl) T.m_all PyProof.Rows.boot_all (pa_cons (pe_lc (own := [("byte", 1)]) (g := gName 1) (tt := tYes) rfl sc_law_is_bytes.nd (pi_list (pv 0)) (blkOk_by (N := ["actual", "byte"]) (sc := defScope s_law_is_bytes) (by decide +kernel)) (fun _ _ _ _ _ => pg_name (i := 1) sc_law_is_bytes.nd rfl (Or.inl rfl)) (fun _ _ _ _ _ => pts_nil) (fun _ _ _ _ _ => (pe_and (pe_call (ok_law_is_integer T) (hr.mono (by decide)) (by rfl) T.g_law_is_integer T.F_law_is_integer.kp T.b_law_is_integer .nil pass0 (pa_cons (pv 1) pa_nil)) (pe_one (pe_chain op_le op_le pe_int (pv 1) pe_int))))) pa_nil))))), ?_⟩
  refine q_when (b := false) (et_is (et_not (et_B (ev_isiL (ev_var rfl) hp))) rfl) (fun h => by cases h) fun _ H1 e1 => ?_
  refine s_ret (v := .bl true) (ev_all (bs := (cs ds).map fun _ => true) (EvR.s (EvL.r (EvL.is (xs := (cs ds).map fun _ => V.bl true) (el_lcS _ (Ev.s (ev_var rfl) (sq_of (e1 _ _ hp))) (by rw [List.length_map, List.length_map]) (by rw [List.length_map, cs_len]; omega) (fun _ => rfl) fun i x H2 e2 hx => ?_) (by rw [List.map_map]; rfl)))) (by simp)) fun H2 e2 => k.go (e1.trans e2)
  obtain ⟨n, hn, hi, rfl⟩ := int_at hx
  obtain ⟨d, hd, rfl⟩ := List.mem_map.mp (List.mem_of_getElem? hn)
  have := hb d hd
  exact ⟨.bl true, by rw [List.getElem?_map, hn]; rfl, Ev.is (ev_andV (a := true) (b := true) (ev_isint (ev_var rfl)) fun _ => Ev.is (ev_chain ev_c (ev_var rfl) ev_c) (congrArg V.bl (by rw [Bool.and_eq_true, decide_eq_true_iff, decide_eq_true_iff]; omega))) rfl⟩
theorem ev_isbytes {σ : L2.St} {H : Hp} {te : TE} {E : XK} {ds : List Nat} (h : EvR te σ H ((cs ds).map V.int)) (hl : ds.length ≤ 40000) (hb : ∀ d ∈ ds, d < 256) : Ev (tCall (sp_isbytes K) [] E (tCons te tNil)) σ H (.bl true) := fun H1 e Q q =>
  h H1 e _ fun p H2 e2 hp => ⟨p, ds, rfl, hp, hl, hb, fun H3 e3 => q H3 (e2.trans e3)⟩
theorem and_mask255 (x : Nat) : Builtin.bitAnd (x : Int) 255 = ((x % 256 : Nat) : Int) := by
  have h := _root_.Bits.bitAnd_mask (x := (x : Int)) 8 (by omega)
  have e : (2 : Int) ^ 8 - 1 = 255 := rfl
  rw [e] at h
  rw [h]
  have e2 : (2 : Int) ^ 8 = 256 := rfl
  rw [e2]
  omega
def bigB (x n : Nat) : List Nat := (List.range n).map fun k => x / 2 ^ (8 * (n - 1 - k)) % 256
theorem bigB_len (x n : Nat) : (bigB x n).length = n := by unfold bigB; rw [List.length_map, List.length_range]
theorem bigB_lt (x n : Nat) : ∀ d ∈ bigB x n, d < 256 := fun d hd => by
  unfold bigB at hd
  obtain ⟨k, _, rfl⟩ := List.mem_map.mp hd
  exact Nat.mod_lt _ (by decide)
theorem p2n (j : Nat) : ((2 : Int) ^ j) = ((2 ^ j : Nat) : Int) := by rw [Int.natCast_pow]; rfl
theorem ev_byte {σ : L2.St} {H : Hp} {t1 t2 : TE} {x j : Nat} (h1 : Ev t1 σ H (.int (x : Int))) (h2 : Ev t2 σ H (.int (j : Int))) : Ev (tOp (rI0 fun i j => .int (Builtin.bitAnd i j)) (tOp (rI (fun _ j => 0 ≤ j) fun i j => .int (i / 2 ^ j.toNat)) t1 t2) (tC (.int 255))) σ H (.int ((x / 2 ^ j % 256 : Nat) : Int)) :=
  Ev.is (ev_I0 (Ev.is (ev_I h1 h2 (by omega)) (congrArg V.int (show (x : Int) / 2 ^ (j : Int).toNat = ((x / 2 ^ j : Nat) : Int) by rw [Int.toNat_natCast, p2n, Int.natCast_ediv]))) ev_c) (congrArg V.int (and_mask255 _))

theorem cs_get {ds : List Nat} {i : Nat} {x : V} (hx : ((cs ds).map V.int)[i]? = some x) : ∃ d, ds[i]? = some d ∧ i < ds.length ∧ x = V.int (d : Int) := by
  obtain ⟨n, hn, hi, rfl⟩ := int_at hx
  unfold cs at hn
  rw [List.getElem?_map] at hn
  cases e : ds[i]? with
  | none => rw [e] at hn; cases hn
  | some d =>
    rw [e] at hn
    exact ⟨d, rfl, (List.getElem?_eq_some_iff.mp e).1, by rw [← Option.some.inj hn]⟩

/-! ### ranges with a step -/
theorem s_forRC {σ : L2.St} {H : Hp} {D : Ends} {tu : TS} {ta : TA} {j n : Nat} {a b c : Int} (h : EvA ta σ H [.int a, .int b, .int c]) (hr : RgC a b c n) (Pv : Nat → L2.St → Hp → Prop) (h0 : ∀ H1, Ex H H1 → Pv 0 σ H1)
    (hs : ∀ i σ' H', i < n → Pv i σ' H' → tu { nx := Pv (i + 1), rt := D.rt, bk := D.nx, ct := Pv (i + 1) } (σ'.set j (some (.int (a + (i : Nat) * c)))) H') (hd : ∀ σ' H', Pv n σ' H' → D.nx σ' H') : tFor (iRng3 ta) (gName j) tu D σ H :=
  h H (Ex.refl H) _ fun H1 e1 => ⟨a, b, c, n, rfl, hr, for_rangeC Pv (h0 H1 e1) hs hd⟩
theorem q_forRC {σ : L2.St} {H : Hp} {D : Ends} {tu tz : TS} {ta : TA} {j n : Nat} {a b c : Int} (h : EvA ta σ H [.int a, .int b, .int c]) (hr : RgC a b c n) (Pv : Nat → L2.St → Hp → Prop) (h0 : ∀ H1, Ex H H1 → Pv 0 σ H1)
    (hs : ∀ i σ' H', i < n → Pv i σ' H' → tu { nx := Pv (i + 1), rt := D.rt, bk := tz D, ct := Pv (i + 1) } (σ'.set j (some (.int (a + (i : Nat) * c)))) H') (hd : ∀ σ' H', Pv n σ' H' → tz D σ' H') : tSeq (tFor (iRng3 ta) (gName j) tu) tz D σ H :=
  h H (Ex.refl H) _ fun H1 e1 => ⟨a, b, c, n, rfl, hr, for_rangeC Pv (h0 H1 e1) hs hd⟩
theorem el_lcC {σ : L2.St} {H : Hp} {ta : TA} {te : TE} {vs : List Nat} {j n : Nat} {a b c : Int} (zs : List V) (h1 : EvA ta σ H [.int a, .int b, .int c]) (hr : RgC a b c n) (hz : zs.length = n) (hb : zs.length ≤ 50000) (hw : ∀ x, wipe ((wipe σ vs).set j (some x)) vs = wipe σ vs)
    (he : ∀ (i : Nat) H1, Ex H H1 → i < n → ∃ z, zs[i]? = some z ∧ Ev te ((wipe σ vs).set j (some (.int (a + (i : Nat) * c)))) H1 z) : EvL (tLc (iRng3 ta) (gName j) tYes te vs) σ H zs := fun H0 e Q q =>
  h1 H0 e _ fun H1 e1 => ⟨a, b, c, n, rfl, hr, fun D hD => lc_it walk_rangeC (fun i H' => Ex H1 H' ∧ H' D = some (.lst (zs.take i))) ⟨Ex.new hD, upd_same⟩ (fun _ _ _ _ => trivial) (by
    rintro i x H' H'' hi ⟨ex, hd⟩ ⟨rfl, rfl⟩
    obtain ⟨z, hz1, hz2⟩ := he i H'' ((e.trans e1).trans ex) hi
    refine ⟨hw _, ?_⟩
    refine hz2 _ (Ex.refl _) _ fun H4 e4 => ⟨zs.take i, e4 _ _ hd, sz_lt (by rw [List.length_take]; omega), ?_, ?_⟩
    · exact Ex.mut (ex.trans e4) hD
    · rw [upd_same, take_snoc hz1]) fun H' ⟨ex, hd⟩ => by
      rw [← hz, List.take_length] at hd
      exact q D H' (fresh_back e1 hD) (e1.trans ex) hd⟩
theorem rs_m6 (i : Int) (n : Nat) : Builtin.Range.rangeSize i (i - 6 * n) (-6) = (n : Int) := by
  unfold Builtin.Range.rangeSize
  rw [if_neg (by decide), show (-(-6) : Int) = 6 from rfl]
  split <;> omega
theorem rg_m6 {i : Int} {n : Nat} (hi : -(2 ^ 60) ≤ i ∧ i < 2 ^ 60) (hn : n ≤ 100000) : RgC i (i - 6 * n) (-6) n := by
  refine ⟨by decide, by decide, ?_, rs_m6 i n⟩
  unfold Builtin.Range.small
  rw [rs_m6]
  simp only [Builtin.Range.rangeFitsLong, Bool.and_eq_true, Bool.or_eq_true, decide_eq_true_eq, beq_iff_eq, show ¬ ((-6 : Int) > 0) by decide, if_false]
  omega
theorem rs_m8 (i : Int) (n : Nat) : Builtin.Range.rangeSize i (i - 8 * n) (-8) = (n : Int) := by
  unfold Builtin.Range.rangeSize
  rw [if_neg (by decide), show (-(-8) : Int) = 8 from rfl]
  split <;> omega
theorem rg_m8 {i : Int} {n : Nat} (hi : -(2 ^ 60) ≤ i ∧ i < 2 ^ 60) (hn : n ≤ 100000) : RgC i (i - 8 * n) (-8) n := by
  refine ⟨by decide, by decide, ?_, rs_m8 i n⟩
  unfold Builtin.Range.small
  rw [rs_m8]
  simp only [Builtin.Range.rangeFitsLong, Bool.and_eq_true, Bool.or_eq_true, decide_eq_true_eq, beq_iff_eq, show ¬ ((-8 : Int) > 0) by decide, if_false]
  omega
theorem rs_8 (i : Int) (n : Nat) : Builtin.Range.rangeSize i (i + 8 * n) (8) = (n : Int) := by
  unfold Builtin.Range.rangeSize
  rw [if_pos (by decide)]
  split <;> omega
theorem rg_8 {i : Int} {n : Nat} (hi : -(2 ^ 60) ≤ i ∧ i < 2 ^ 60) (hn : n ≤ 100000) : RgC i (i + 8 * n) (8) n := by
  refine ⟨by decide, by decide, ?_, rs_8 i n⟩
  unfold Builtin.Range.small
  rw [rs_8]
  simp only [Builtin.Range.rangeFitsLong, Bool.and_eq_true, Bool.or_eq_true, decide_eq_true_eq, beq_iff_eq, show ((8 : Int) > 0) by decide, if_true]
  omega
theorem rs_18 (i : Int) (n : Nat) : Builtin.Range.rangeSize i (i + 18 * n) (18) = (n : Int) := by
  unfold Builtin.Range.rangeSize
  rw [if_pos (by decide)]
  split <;> omega
theorem rg_18 {i : Int} {n : Nat} (hi : -(2 ^ 60) ≤ i ∧ i < 2 ^ 60) (hn : n ≤ 100000) : RgC i (i + 18 * n) (18) n := by
  refine ⟨by decide, by decide, ?_, rs_18 i n⟩
  unfold Builtin.Range.small
  rw [rs_18]
  simp only [Builtin.Range.rangeFitsLong, Bool.and_eq_true, Bool.or_eq_true, decide_eq_true_eq, beq_iff_eq, show ((18 : Int) > 0) by decide, if_true]
  omega
theorem rs_12 (i : Int) (n : Nat) : Builtin.Range.rangeSize i (i + 12 * n) (12) = (n : Int) := by
  unfold Builtin.Range.rangeSize
  rw [if_pos (by decide)]
  split <;> omega
theorem rg_12 {i : Int} {n : Nat} (hi : -(2 ^ 60) ≤ i ∧ i < 2 ^ 60) (hn : n ≤ 100000) : RgC i (i + 12 * n) (12) n := by
  refine ⟨by decide, by decide, ?_, rs_12 i n⟩
  unfold Builtin.Range.small
  rw [rs_12]
  simp only [Builtin.Range.rangeFitsLong, Bool.and_eq_true, Bool.or_eq_true, decide_eq_true_eq, beq_iff_eq, show ((12 : Int) > 0) by decide, if_true]
  omega

theorem rs8 (n : Nat) : Builtin.Range.rangeSize 0 ((8 * n : Nat) : Int) 8 = (n : Int) := by
  unfold Builtin.Range.rangeSize
  rw [if_pos (by decide)]
  split <;> omega
theorem rg8 {n : Nat} (h : n ≤ 100000) : RgC 0 ((8 * n : Nat) : Int) 8 n := by
  refine ⟨by decide, by decide, ?_, rs8 n⟩
  unfold Builtin.Range.small
  rw [rs8]
  have f : ∀ x : Int, 0 ≤ x → x ≤ 1000000 → Builtin.Range.rangeFitsLong x = true := fun x h1 h2 => by
    unfold Builtin.Range.rangeFitsLong
    rw [Bool.and_eq_true]
    exact ⟨decide_eq_true (by omega), decide_eq_true (by omega)⟩
  rw [f 0 (by decide) (by decide), f _ (by omega) (by omega), f 8 (by decide) (by decide), f (n : Int) (by omega) (by omega), if_pos (by decide), f _ (by omega) (by omega), Bool.or_true]
  rfl

theorem s_ext {σ : L2.St} {H : Hp} {ta te : TE} {D : Ends} {l : Addr} {xs zs : List V} (hl : H l = some (.lst xs)) (ha : Ev ta σ H (.ref l)) (he : EvR te σ H zs) (hs : xs.length + zs.length ≤ 100000) (k : ∀ H1, Ex H H1 → D.nx σ (upd H1 l (.lst (xs ++ zs)))) : tDrop (tBM K "list" rExtend ta (tCons te tNil)) D σ H :=
  ha H (Ex.refl H) _ fun H1 e1 => ⟨.inl ⟨rfl, _, sq_of (e1 _ _ hl)⟩, he H1 e1 _ fun b H2 e2 g2 => ⟨l, b, xs, zs, rfl, rfl, (e1.trans e2) _ _ hl, g2, sz_of hs, k H2 (e1.trans e2)⟩⟩
theorem q_ext {σ : L2.St} {H : Hp} {ta te : TE} {D : Ends} {tz : TS} {l : Addr} {xs zs : List V} (hl : H l = some (.lst xs)) (ha : Ev ta σ H (.ref l)) (he : EvR te σ H zs) (hs : xs.length + zs.length ≤ 100000) (k : ∀ H1, Ex H H1 → tz D σ (upd H1 l (.lst (xs ++ zs)))) : tSeq (tDrop (tBM K "list" rExtend ta (tCons te tNil))) tz D σ H := s_ext (D := { D with nx := tz D }) hl ha he hs k

/-! ### code points and their bytes -/
def ptN (p : Nat) : Nat := if p < 128 then 1 else if p < 2048 then 2 else if p < 65536 then 3 else 4
def ptB (p : Nat) : List Nat := if p < 128 then [p] else if p < 2048 then [192 + p / 64, 128 + p % 64] else if p < 65536 then [224 + p / 4096, 128 + p / 64 % 64, 128 + p % 64] else [240 + p / 262144, 128 + p / 4096 % 64, 128 + p / 64 % 64, 128 + p % 64]
theorem ptB_len (p : Nat) : (ptB p).length = ptN p := by unfold ptB ptN; split; rfl; split; rfl; split <;> rfl
theorem ptN_bd (p : Nat) : 1 ≤ ptN p ∧ ptN p ≤ 4 := by unfold ptN; split; omega; split; omega; split <;> omega
theorem ptB_lt {p : Nat} (h : p < 2097152) : ∀ d ∈ ptB p, d < 256 := fun d hd => by
  unfold ptB at hd
  split at hd
  · rw [List.mem_singleton.mp hd]; omega
  split at hd
  · rcases List.mem_cons.mp hd with rfl | hd
    · omega
    · rw [List.mem_singleton.mp hd]; omega
  split at hd
  · rcases List.mem_cons.mp hd with rfl | hd
    · omega
    rcases List.mem_cons.mp hd with rfl | hd
    · omega
    · rw [List.mem_singleton.mp hd]; omega
  · rcases List.mem_cons.mp hd with rfl | hd
    · omega
    rcases List.mem_cons.mp hd with rfl | hd
    · omega
    rcases List.mem_cons.mp hd with rfl | hd
    · omega
    · rw [List.mem_singleton.mp hd]; omega
def sp_pcount : Sp := fun vs H Q _ => ∃ p : Nat, vs = [.int (p : Int)] ∧ RetV (.int (ptN p : Int)) H Q
theorem ok_point_count (T : TX K mg) : FnOk P w K mg base CX0 1 T.a_point_count T.d_point_count ["point"] sp_pcount := by
  refine T.F_point_count.ok sc_point_count (fun vs H Q E h => by obtain ⟨p, rfl, _⟩ := h; rfl) (fun cdv A outer s0 H vs Q E hr h => ?_)
  obtain ⟨p, rfl, k⟩ := h
  refine ⟨_, (pss_cons (ps_if (pt_cmpR op_lt (pv 0) pe_int (nomark _)) (pss_one (ps_ret pe_int)) pss_nil)
      (pss_cons (ps_if (pt_cmpR op_lt (pv 0) pe_int (nomark _)) (pss_one (ps_ret pe_int)) pss_nil)
      (pss_cons (ps_if (pt_cmpR op_lt (pv 0) pe_int (nomark _)) (pss_one (ps_ret pe_int)) pss_nil)
      (pss_one (ps_ret pe_int))))), ?_⟩
  unfold ptN at k
  refine q_when (b := decide (p < 128)) (et_is (et_test (ev_I0 (ev_var rfl) ev_c)) (decide_eq_decide.mpr (by omega))) (fun h H1 e1 => ?_) (fun h H1 e1 => ?_)
  · rw [if_pos (of_decide_eq_true h)] at k
    exact s_ret ev_c fun H2 e2 => k.go (e1.trans e2)
  rw [if_neg (of_decide_eq_false h)] at k
  refine q_when (b := decide (p < 2048)) (et_is (et_test (ev_I0 (ev_var rfl) ev_c)) (decide_eq_decide.mpr (by omega))) (fun h H2 e2 => ?_) (fun h H2 e2 => ?_)
  · rw [if_pos (of_decide_eq_true h)] at k
    exact s_ret ev_c fun H3 e3 => k.go (e1.trans (e2.trans e3))
  rw [if_neg (of_decide_eq_false h)] at k
  refine q_when (b := decide (p < 65536)) (et_is (et_test (ev_I0 (ev_var rfl) ev_c)) (decide_eq_decide.mpr (by omega))) (fun h H3 e3 => ?_) (fun h H3 e3 => ?_)
  · rw [if_pos (of_decide_eq_true h)] at k
    exact s_ret ev_c fun H4 e4 => k.go (e1.trans (e2.trans (e3.trans e4)))
  rw [if_neg (of_decide_eq_false h)] at k
  exact s_ret ev_c fun H4 e4 => k.go (e1.trans (e2.trans (e3.trans e4)))
theorem ev_pcount {σ : L2.St} {H : Hp} {te : TE} {E : XK} {p : Nat} (h : Ev te σ H (.int (p : Int))) : Ev (tCall sp_pcount [] E (tCons te tNil)) σ H (.int (ptN p : Int)) := ev_call (ea_cons h ea_nil) fun H1 _ Q q _ => ⟨p, rfl, q⟩
def leastN (c : Nat) : Nat := 256 - 256 / 2 ^ c
def sp_least : Sp := fun vs H Q _ => ∃ c : Nat, vs = [.int (c : Int)] ∧ RetV (.int (leastN c : Int)) H Q
theorem ok_least_first (T : TX K mg) : FnOk P w K mg base CX0 1 T.a_least_first T.d_least_first ["count"] sp_least := by
  refine T.F_least_first.ok sc_least_first (fun vs H Q E h => by obtain ⟨c, rfl, _⟩ := h; rfl) (fun cdv A outer s0 H vs Q E hr h => ?_)
  obtain ⟨c, rfl, k⟩ := h
  refine ⟨_, (pss_one (ps_ret (pe_op op_sub pe_int (pe_op op_shr pe_int (pv 0))))), ?_⟩
  refine s_ret (v := .int (leastN c : Int)) (Ev.is (ev_I0 ev_c (ev_I ev_c (ev_var rfl) (by show (0 : Int) ≤ _; omega))) (congrArg V.int ?_)) k
  rw [Int.toNat_natCast, p2n]
  have h1 : (256 : Int) / ((2 ^ c : Nat) : Int) = ((256 / 2 ^ c : Nat) : Int) := by rw [Int.natCast_ediv]; rfl
  have h2 : 256 / 2 ^ c ≤ 256 := Nat.div_le_self _ _
  unfold leastN
  omega
theorem ev_least {σ : L2.St} {H : Hp} {te : TE} {E : XK} {c : Nat} (h : Ev te σ H (.int (c : Int))) : Ev (tCall sp_least [] E (tCons te tNil)) σ H (.int (leastN c : Int)) := ev_call (ea_cons h ea_nil) fun H1 _ Q q _ => ⟨c, rfl, q⟩
theorem and_mask63 (x : Nat) : Builtin.bitAnd (x : Int) 63 = ((x % 64 : Nat) : Int) := by
  have h := _root_.Bits.bitAnd_mask (x := (x : Int)) 6 (by omega)
  have e : (2 : Int) ^ 6 - 1 = 63 := rfl
  rw [e] at h
  rw [h]
  have e2 : (2 : Int) ^ 6 = 64 := rfl
  rw [e2]
  omega
theorem ev_shrN {σ : L2.St} {H : Hp} {t1 t2 : TE} {x j : Nat} (h1 : Ev t1 σ H (.int (x : Int))) (h2 : Ev t2 σ H (.int (j : Int))) : Ev (tOp (rI (fun _ j => 0 ≤ j) fun i j => .int (i / 2 ^ j.toNat)) t1 t2) σ H (.int ((x / 2 ^ j : Nat) : Int)) :=
  Ev.is (ev_I h1 h2 (by omega)) (congrArg V.int (show (x : Int) / 2 ^ (j : Int).toNat = ((x / 2 ^ j : Nat) : Int) by rw [Int.toNat_natCast, p2n, Int.natCast_ediv]))
theorem ev_and63 {σ : L2.St} {H : Hp} {te : TE} {x : Nat} (h : Ev te σ H (.int (x : Int))) : Ev (tOp (rI0 fun i j => .int (Builtin.bitAnd i j)) te (tC (.int 63))) σ H (.int ((x % 64 : Nat) : Int)) := Ev.is (ev_I0 h ev_c) (congrArg V.int (and_mask63 x))

def sp_pbytes : Sp := fun vs H Q _ => ∃ p : Nat, vs = [.int (p : Int)] ∧ p < 2097152 ∧ RetL ((cs (ptB p)).map V.int) H Q
theorem ptB_many {p n : Nat} (hn : ptN p = n + 2) : ptB p = (List.range (n + 2)).map fun i => if i = 0 then leastN (n + 2) + p / 2 ^ (6 * (n + 1)) else 128 + p / 2 ^ (6 * (n + 1 - i)) % 64 := by
  have h4 := ptN_bd p
  have : n = 0 ∨ n = 1 ∨ n = 2 := by omega
  unfold ptN at hn
  unfold ptB
  rcases this with rfl | rfl | rfl
  · have h : ¬ p < 128 ∧ p < 2048 := by split at hn; omega; split at hn; omega; split at hn <;> omega
    rw [if_neg h.1, if_pos h.2]
    show _ = [leastN 2 + p / 64, 128 + p / 1 % 64]
    rw [Nat.div_one]
    rfl
  · have h : ¬ p < 128 ∧ ¬ p < 2048 ∧ p < 65536 := by split at hn; omega; split at hn; omega; split at hn <;> omega
    rw [if_neg h.1, if_neg h.2.1, if_pos h.2.2]
    show _ = [leastN 3 + p / 4096, 128 + p / 64 % 64, 128 + p / 1 % 64]
    rw [Nat.div_one]
    rfl
  · have h : ¬ p < 128 ∧ ¬ p < 2048 ∧ ¬ p < 65536 := by split at hn; omega; split at hn; omega; split at hn <;> omega
    rw [if_neg h.1, if_neg h.2.1, if_neg h.2.2]
    show _ = [leastN 4 + p / 262144, 128 + p / 4096 % 64, 128 + p / 64 % 64, 128 + p / 1 % 64]
    rw [Nat.div_one]
    rfl
theorem ok_point_bytes (T : TX K mg) : FnOk P w K mg base CX0 2 T.a_point_bytes T.d_point_bytes ["point"] sp_pbytes := by
  refine T.F_point_bytes.ok sc_point_bytes (fun vs H Q E h => by obtain ⟨p, rfl, _⟩ := h; rfl) (fun cdv A outer s0 H vs Q E hr h => ?_)
  obtain ⟨p, rfl, hp, k⟩ := h
  refine ⟨_, (pss_cons (ps_set (i := 1) sc_point_bytes.nd rfl (Or.inl rfl) (pe_call (ok_point_count T) (hr.mono (by decide)) (by rfl) T.g_point_count T.F_point_count.kp T.b_point_count .nil pass0 (pa_cons (pv 0) pa_nil)))
      (pss_cons (ps_if (pt_cmpR op_eq (pv 1) pe_int (nomark _)) (pss_one (ps_ret (pe_lst (pa_cons (pv 0) pa_nil)))) pss_nil)
      (pss_cons (ps_set (i := 2) sc_point_bytes.nd rfl (Or.inl rfl) (pe_lst (pa_cons (pe_op op_add (pe_call (ok_least_first T) (hr.mono (by decide)) (by rfl) T.g_least_first T.F_least_first.kp T.b_least_first .nil pass0 (pa_cons (pv 1) pa_nil)) (pe_op op_shr (pv 0) (pe_op op_sub (pe_op op_mul pe_int (pv 1)) pe_int))) pa_nil)))
      (pss_cons (ps_for PassesOwn.never rfl (pi_range3 (by rfl) T.m_range (pa_cons (pe_op op_sub (pe_op op_mul pe_int (pv 1)) pe_int) (pa_cons (pe_un un_neg pe_int) (pa_cons (pe_un un_neg pe_int) pa_nil)))) (pg_name (i := 3) sc_point_bytes.nd rfl (Or.inl rfl)) (pss_one (ps_expr (pe_bm PySem.F.plainAttrs_list PySem.F.slot_list_append PySem.F.type_list_append mt_append (pv 2) (pa_cons (pe_op op_add pe_int (pe_op op_and (pe_op op_shr (pv 0) (pv 3)) pe_int)) pa_nil)))))
      (pss_one (ps_ret (pv 2))))))), ?_⟩
  refine q_asg (ev_pcount (ev_var rfl)) fun H1 e1 => ?_
  have h4 := ptN_bd p
  refine q_when (b := decide (ptN p = 1)) (et_is (et_test (ev_eq (ev_var rfl) ev_c rfl)) (by rw [decide_eq_decide]; exact ⟨fun h => by have := V.int.inj h; omega, fun h => by rw [h]; rfl⟩)) (fun h H2 e2 => ?_) (fun h H2 e2 => ?_)
  · have h : ptN p = 1 := of_decide_eq_true h
    have hb : ptB p = [p] := by unfold ptN at h; unfold ptB; split at h; rw [if_pos (by assumption)]; split at h; omega; split at h <;> omega
    rw [hb] at k
    exact s_retL (el_lst (ea_cons (ev_var rfl) ea_nil) (Nat.le_of_ble_eq_true rfl)) fun q H3 hq e3 g3 => k.go (e1.trans e2) hq e3 g3
  have h : ¬ ptN p = 1 := of_decide_eq_false h
  obtain ⟨n, hn⟩ : ∃ n, ptN p = n + 2 := ⟨ptN p - 2, by omega⟩
  rw [ptB_many hn] at k
  rw [hn]
  generalize hg : (fun i => if i = 0 then leastN (n + 2) + p / 2 ^ (6 * (n + 1)) else 128 + p / 2 ^ (6 * (n + 1 - i)) % 64) = g at k
  have g0 : g 0 = leastN (n + 2) + p / 2 ^ (6 * (n + 1)) := by rw [← hg]; rfl
  have g1 : ∀ i, g (i + 1) = 128 + p / 2 ^ (6 * (n - i)) % 64 := fun i => by rw [← hg]; show 128 + p / 2 ^ (6 * (n + 1 - (i + 1))) % 64 = _; rw [show n + 1 - (i + 1) = n - i by omega]
  refine q_asgL (xs := (cs ((List.range 1).map g)).map V.int) (EvL.is (el_lst (ea_cons (Ev.is (ev_I0 (ev_least (ev_var rfl)) (ev_shrN (j := 6 * (n + 1)) (ev_var rfl) (Ev.is (ev_I0 (ev_I ev_c (ev_var rfl) (.inl (by decide))) ev_c) (congrArg V.int (by omega))))) (congrArg V.int (show _ = ((g 0 : Nat) : Int) by rw [g0]; omega))) ea_nil) (Nat.le_of_ble_eq_true rfl)) rfl) fun q H3 hq e3 g3 => ?_
  have hqH := fresh_back (e1.trans e2) hq
  refine q_forRC (n := n + 1) (a := 6 * ((n : Int) + 2) - 12) (b := -6) (c := -6) (ea_cons (Ev.is (ev_I0 (ev_I ev_c (ev_var rfl) (.inl (by decide))) ev_c) (congrArg V.int (by omega))) (ea_cons (ev_negI ev_c) (ea_cons (ev_negI ev_c) ea_nil))) (by have := rg_m6 (i := 6 * ((n : Int) + 2) - 12) (n := n + 1) (by omega) (by omega); rwa [show 6 * ((n : Int) + 2) - 12 - 6 * ((n + 1 : Nat) : Int) = -6 by omega] at this) (fun i σ' H' => ∃ z, σ' = [some (.int (p : Int)), some (.int ((n + 2 : Nat) : Int)), some (.ref q), z] ∧ Ex H H' ∧ H' q = some (.lst ((cs ((List.range (i + 1)).map g)).map V.int))) (fun H4 e4 => ⟨none, rfl, (e1.trans e2).trans (e3.trans e4), e4 _ _ g3⟩) ?_ ?_
  · rintro i σ' H4 hi ⟨z, rfl, ex, gq⟩
    have hsh : 6 * ((n : Int) + 2) - 12 + (i : Int) * (-6) = ((6 * (n - i) : Nat) : Int) := by omega
    refine s_app (v := .int ((g (i + 1) : Nat) : Int)) gq (ev_var rfl) (Ev.is (ev_I0 ev_c (ev_and63 (ev_shrN (j := 6 * (n - i)) (ev_var rfl) (Ev.is (ev_var rfl) (congrArg V.int hsh))))) (congrArg V.int (by rw [g1]; omega))) (by rw [List.length_map, cs_len, List.length_map, List.length_range]; omega) fun H5 e5 => ⟨_, rfl, Ex.mut (ex.trans e5) hqH, ?_⟩
    rw [upd_same, List.range_succ (n := i + 1), List.map_append, cs_append, List.map_append]
    rfl
  · rintro σ' H4 ⟨z, rfl, ex, gq⟩
    exact s_ret (v := .ref q) (ev_var rfl) fun H5 e5 => k q H5 hqH (ex.trans e5) (e5 _ _ gq)
theorem el_pbytes {σ : L2.St} {H : Hp} {te : TE} {E : XK} {p : Nat} (h : Ev te σ H (.int (p : Int))) (hp : p < 2097152) : EvL (tCall sp_pbytes [] E (tCons te tNil)) σ H ((cs (ptB p)).map V.int) := el_call (ea_cons h ea_nil) fun H1 _ Q q _ => ⟨p, rfl, hp, q⟩
def utfB (ts : List Nat) : List Nat := ts.flatMap ptB
theorem utfB_len (ts : List Nat) : ts.length ≤ (utfB ts).length ∧ (utfB ts).length ≤ 4 * ts.length := by
  induction ts with
  | nil => exact ⟨Nat.le_refl _, Nat.le_refl _⟩
  | cons t r ih =>
    have := ptN_bd t
    show (t :: r).length ≤ (ptB t ++ utfB r).length ∧ (ptB t ++ utfB r).length ≤ 4 * (t :: r).length
    rw [List.length_append, ptB_len, List.length_cons]
    omega
theorem utfB_snoc {ts : List Nat} {i p : Nat} (h : ts[i]? = some p) : utfB (ts.take (i + 1)) = utfB (ts.take i) ++ ptB p := by
  unfold utfB
  rw [show ts.take (i + 1) = ts.take i ++ [p] from by rw [List.take_add_one, h]; rfl, List.flatMap_append]
  show _ ++ (ptB p ++ []) = _
  rw [List.append_nil]
theorem utfB_lt {ts : List Nat} (h : ∀ t ∈ ts, t < 2097152) : ∀ d ∈ utfB ts, d < 256 := fun d hd => by
  obtain ⟨t, ht, hd⟩ := List.mem_flatMap.mp hd
  exact ptB_lt (h t ht) d hd
def sp_wutf (K : PySem.W.Frag) : Sp := fun vs H Q _ => ∃ (a : Addr) (ts : List Nat), vs = [.ref a] ∧ SqL K H a ((cs ts).map V.int) ∧ ts.length ≤ 10000 ∧ (∀ t ∈ ts, t < 2097152) ∧ RetL ((cs (utfB ts)).map V.int) H Q
theorem ok_write_utf8 (T : TX K mg) : FnOk P w K mg base CX0 3 T.a_write_utf8 T.d_write_utf8 ["text"] (sp_wutf K) := by
  refine T.F_write_utf8.ok sc_write_utf8 (fun vs H Q E h => by obtain ⟨a, ts, rfl, _⟩ := h; rfl) (fun cdv A outer s0 H vs Q E hr h => ?_)
  obtain ⟨a, ts, rfl, hS, hl, ht, k⟩ := h
  refine ⟨_, (pss_cons (ps_set (i := 1) sc_write_utf8.nd rfl (Or.inl rfl) (pe_lst pa_nil))
      (pss_cons (ps_for PassesOwn.never rfl (pi_list (pv 0)) (pg_name (i := 2) sc_write_utf8.nd rfl (Or.inl rfl)) (pss_one (ps_expr (pe_bm PySem.F.plainAttrs_list PySem.F.slot_list_extend PySem.F.type_list_extend mt_extend (pv 1) (pa_cons (pe_call (ok_point_bytes T) (hr.mono (by decide)) (by rfl) T.g_point_bytes T.F_point_bytes.kp T.b_point_bytes .nil pass0 (pa_cons (pv 2) pa_nil)) pa_nil)))))
      (pss_one (ps_ret (pv 1))))), ?_⟩
  refine q_asgL (xs := []) (el_lst ea_nil (by decide)) fun q H1 hq e1 g1 => ?_
  refine q_forLn (K := K) (a := a) (ev_var rfl) (ex_l e1 hS) (fun i σ' H' => ∃ z, σ' = [some (.ref a), some (.ref q), z] ∧ Ex H H' ∧ H' q = some (.lst ((cs (utfB (ts.take i))).map V.int))) (fun H2 e2 => ⟨none, rfl, e1.trans e2, e2 _ _ g1⟩) (fun i σ' H' _ h => by obtain ⟨_, _, ex, _⟩ := h; exact ex_l ex hS) ?_ ?_
  · rintro i x σ' H2 hx ⟨z, rfl, ex, gq⟩
    obtain ⟨p, hp, hi, rfl⟩ := cs_get hx
    have h1 := utfB_len (ts.take i)
    have h2 := ptN_bd p
    rw [List.length_take] at h1
    refine s_ext gq (ev_var rfl) (EvL.r (el_pbytes (ev_var rfl) (ht p (List.mem_of_getElem? hp)))) (by rw [List.length_map, cs_len, List.length_map, cs_len, ptB_len]; omega) fun H3 e3 => ⟨_, rfl, Ex.mut (ex.trans e3) hq, ?_⟩
    rw [upd_same, utfB_snoc hp, cs_append, List.map_append]
  · rintro σ' H2 ⟨z, rfl, ex, gq⟩
    rw [List.length_map, cs_len, List.take_length] at gq
    exact s_ret (v := .ref q) (ev_var rfl) fun H3 e3 => k q H3 hq (ex.trans e3) (e3 _ _ gq)
theorem el_wutf {σ : L2.St} {H : Hp} {te : TE} {E : XK} {ts : List Nat} (h : EvS K te σ H ((cs ts).map V.int)) (hl : ts.length ≤ 10000) (ht : ∀ t ∈ ts, t < 2097152) : EvL (tCall (sp_wutf K) [] E (tCons te tNil)) σ H ((cs (utfB ts)).map V.int) := fun H1 e Q q =>
  h H1 e _ fun p H2 e2 hp => ⟨p, ts, rfl, hp, hl, ht, fun r H3 hr e3 g3 => q r H3 (fresh_back e2 hr) (e2.trans e3) g3⟩

/-! ### reading what was written -/
def cntG (d : Nat) : Nat → Nat
  | 0 => 0
  | k + 1 => if leastN (4 - k) ≤ d ∧ d < leastN (4 - k + 1) then 4 - k else cntG d k
def cntT (d : Nat) : Nat := if d < 128 then 1 else cntG d 3
/-- for x in (a, b, ..), the tuple made on the way -/
theorem q_forNTn {σ : L2.St} {H : Hp} {D : Ends} {tu tz : TS} {xs : List V} {tl : TE} {j : Nat} (h : EvU tl σ H xs) (Pv : Addr → Nat → L2.St → Hp → Prop) (h0 : ∀ p H1, H p = none → Ex H H1 → H1 p = some (.tup xs) → Pv p 0 σ H1) (hl : ∀ p i σ' H', i ≤ xs.length → Pv p i σ' H' → SqT K H' p xs)
    (hs : ∀ p i x σ' H', xs[i]? = some x → Pv p i σ' H' → tu { D with nx := Pv p (i + 1), ct := Pv p (i + 1), bk := tz D } (σ'.set j (some x)) H') (hd : ∀ p σ' H', Pv p xs.length σ' H' → tz D σ' H') : tSeq (tFor (iTup K tl) (gName j) tu) tz D σ H :=
  h H (Ex.refl H) _ fun p H1 hp e h1 => ⟨p, rfl, ⟨xs, st_of h1⟩, for_tup (D := { D with nx := tz D }) (Pv p) (h0 p H1 hp e h1) (hl p) (hs p) (hd p)⟩
def sp_told : Sp := fun vs H Q _ => ∃ d : Nat, vs = [.int (d : Int)] ∧ RetV (.int (cntT d : Int)) H Q
theorem ok_count_told (T : TX K mg) : FnOk P w K mg base CX0 2 T.a_count_told T.d_count_told ["first"] sp_told := by
  refine T.F_count_told.ok sc_count_told (fun vs H Q E h => by obtain ⟨d, rfl, _⟩ := h; rfl) (fun cdv A outer s0 H vs Q E hr h => ?_)
  obtain ⟨d, rfl, k⟩ := h
  refine ⟨_, (pss_cons (ps_if (pt_cmpR op_lt (pv 0) pe_int (nomark _)) (pss_one (ps_ret pe_int)) pss_nil)
      (pss_cons (ps_for PassesOwn.never rfl (pi_tup (pe_tup (pa_cons pe_int (pa_cons pe_int (pa_cons pe_int pa_nil))))) (pg_name (i := 1) sc_count_told.nd rfl (Or.inl rfl)) (pss_one (ps_if (pt_chain op_le op_lt (pe_call (ok_least_first T) (hr.mono (by decide)) (by rfl) T.g_least_first T.F_least_first.kp T.b_least_first .nil pass0 (pa_cons (pv 1) pa_nil)) (pv 0) (pe_call (ok_least_first T) (hr.mono (by decide)) (by rfl) T.g_least_first T.F_least_first.kp T.b_least_first .nil pass0 (pa_cons (pe_op op_add (pv 1) pe_int) pa_nil))) (pss_one (ps_ret (pv 1))) pss_nil)))
      (pss_one (ps_ret pe_int)))), ?_⟩
  unfold cntT at k
  refine q_when (b := decide (d < 128)) (et_is (et_test (ev_I0 (ev_var rfl) ev_c)) (decide_eq_decide.mpr (by omega))) (fun h H1 e1 => ?_) (fun h H1 e1 => ?_)
  · rw [if_pos (of_decide_eq_true h)] at k
    exact s_ret ev_c fun H2 e2 => k.go (e1.trans e2)
  rw [if_neg (of_decide_eq_false h)] at k
  refine q_forNTn (K := K) (xs := [.int 2, .int 3, .int 4]) (eu_tup (ea_cons ev_c (ea_cons ev_c (ea_cons ev_c ea_nil))) (by decide)) (fun p i σ' H' => ∃ z, σ' = [some (.int (d : Int)), z] ∧ Ex H H' ∧ H' p = some (.tup [.int 2, .int 3, .int 4]) ∧ cntG d 3 = cntG d (3 - i)) (fun p H2 hp e2 g2 => ⟨none, rfl, e1.trans e2, g2, rfl⟩) (fun p i σ' H' _ h => by obtain ⟨_, _, _, g, _⟩ := h; exact st_of g) ?_ ?_
  · rintro p i x σ' H2 hx ⟨z, rfl, ex, g, hc⟩
    have hi : i < 3 ∧ x = .int ((2 + i : Nat) : Int) := by
      match i, hx with
      | 0, hx => exact ⟨by decide, (Option.some.inj hx).symm⟩
      | 1, hx => exact ⟨by decide, (Option.some.inj hx).symm⟩
      | 2, hx => exact ⟨by decide, (Option.some.inj hx).symm⟩
      | i + 3, hx => simp at hx
    obtain ⟨hi, rfl⟩ := hi
    have hst : cntG d (3 - i) = if leastN (2 + i) ≤ d ∧ d < leastN (2 + i + 1) then 2 + i else cntG d (3 - (i + 1)) := by
      rw [show 3 - i = (2 - i) + 1 by omega]
      show (if leastN (4 - (2 - i)) ≤ d ∧ d < leastN (4 - (2 - i) + 1) then 4 - (2 - i) else cntG d (2 - i)) = _
      rw [show 4 - (2 - i) = 2 + i by omega, show 2 - i = 3 - (i + 1) by omega]
    refine s_when (b := decide (leastN (2 + i) ≤ d ∧ d < leastN (2 + i + 1))) (et_is (et_test (ev_chain (ev_least (ev_var rfl)) (ev_var rfl) (ev_least (c := 2 + i + 1) (Ev.is (ev_I0 (ev_var rfl) ev_c) (congrArg V.int (by omega)))))) ?_) (fun h H3 e3 => ?_) (fun h H3 e3 => ?_)
    · rw [Bool.eq_iff_iff, Bool.and_eq_true, decide_eq_true_iff, decide_eq_true_iff, decide_eq_true_iff]
      omega
    · rw [hc, hst, if_pos (of_decide_eq_true h)] at k
      exact s_ret (ev_var rfl) fun H4 e4 => k.go (ex.trans (e3.trans e4))
    · exact ⟨_, rfl, ex.trans e3, e3 _ _ g, by rw [hc, hst, if_neg (of_decide_eq_false h)]⟩
  · rintro p σ' H2 ⟨z, rfl, ex, g, hc⟩
    have hc : cntG d 3 = 0 := hc
    rw [hc] at k
    exact s_ret ev_c fun H3 e3 => k.go (ex.trans e3)
theorem ev_told {σ : L2.St} {H : Hp} {te : TE} {E : XK} {d : Nat} (h : Ev te σ H (.int (d : Int))) : Ev (tCall sp_told [] E (tCons te tNil)) σ H (.int (cntT d : Int)) := ev_call (ea_cons h ea_nil) fun H1 _ Q q _ => ⟨d, rfl, q⟩

def ptOk (p : Nat) : Prop := p ≤ 1114111 ∧ ¬ (55296 ≤ p ∧ p ≤ 57343)
theorem ptB_head {p : Nat} (h : p ≤ 1114111) : ∃ d, (ptB p)[0]? = some d ∧ cntT d = ptN p := by
  unfold ptB ptN
  by_cases h1 : p < 128
  · rw [if_pos h1, if_pos h1]
    exact ⟨p, rfl, by unfold cntT; rw [if_pos h1]⟩
  rw [if_neg h1, if_neg h1]
  have l2 : leastN 2 = 192 := rfl
  have l3 : leastN 3 = 224 := rfl
  have l4 : leastN 4 = 240 := rfl
  have l5 : leastN 5 = 248 := rfl
  have hG : ∀ d, cntG d 3 = if 192 ≤ d ∧ d < 224 then 2 else if 224 ≤ d ∧ d < 240 then 3 else if 240 ≤ d ∧ d < 248 then 4 else 0 := fun d => rfl
  by_cases h2 : p < 2048
  · rw [if_pos h2, if_pos h2]
    refine ⟨_, rfl, ?_⟩
    unfold cntT
    rw [if_neg (by omega), hG, if_pos (by omega)]
  rw [if_neg h2, if_neg h2]
  by_cases h3 : p < 65536
  · rw [if_pos h3, if_pos h3]
    refine ⟨_, rfl, ?_⟩
    unfold cntT
    rw [if_neg (by omega), hG, if_neg (by omega), if_pos (by omega)]
  rw [if_neg h3, if_neg h3]
  refine ⟨_, rfl, ?_⟩
  unfold cntT
  rw [if_neg (by omega), hG, if_neg (by omega), if_neg (by omega), if_pos (by omega)]
theorem or_join6 (q : Nat) : Builtin.bitOr (((q / 64 : Nat) : Int) * 2 ^ (6 : Int).toNat) ((q % 64 : Nat) : Int) = (q : Int) := by
  have h := _root_.Bits.bitOr_join' (a := ((q % 64 : Nat) : Int)) (b := ((q / 64 : Nat) : Int)) (k := 6) (by omega) (by show _ < ((2 : Int) ^ 6); have e : ((2 : Int) ^ 6) = 64 := rfl; omega) (by omega)
  have e : (6 : Int).toNat = 6 := rfl
  rw [e, h]
  have e2 : ((2 : Int) ^ 6) = 64 := rfl
  omega
def sp_rpoint (K : PySem.W.Frag) : Sp := fun vs H Q _ => ∃ (a : Addr) (ds : List Nat) (pl p : Nat), vs = [.ref a, .int (pl : Int), .int (ptN p : Int)] ∧ SqL K H a ((cs ds).map V.int) ∧ (ds.drop pl).take (ptN p) = ptB p ∧ ptOk p ∧ RetV (.int (p : Int)) H Q
theorem ok_read_point (T : TX K mg) : FnOk P w K mg base CX0 2 T.a_read_point T.d_read_point ["data", "place", "count"] (sp_rpoint K) := by
  refine T.F_read_point.ok sc_read_point (fun vs H Q E h => by obtain ⟨a, ds, pl, p, rfl, _⟩ := h; rfl) (fun cdv A outer s0 H vs Q E hr h => ?_)
  obtain ⟨a, ds, pl, p, rfl, hS, hds, hp, k⟩ := h
  refine ⟨_, (pss_cons (ps_if (pt_cmpR op_eq (pv 2) pe_int (nomark _)) (pss_one (ps_ret (pe_ix (r := rIxL K) ix_list (pv 0) (pv 1) (fun _ _ => rfl)))) pss_nil)
      (pss_cons (ps_set (i := 3) sc_read_point.nd rfl (Or.inl rfl) (pe_op op_sub (pe_ix (r := rIxL K) ix_list (pv 0) (pv 1) (fun _ _ => rfl)) (pe_call (ok_least_first T) (hr.mono (by decide)) (by rfl) T.g_least_first T.F_least_first.kp T.b_least_first .nil pass0 (pa_cons (pv 2) pa_nil))))
      (pss_cons (ps_for PassesOwn.never rfl (pi_list (pe_slice (r := rSlL K) sl_list (pv 0) (po_some (pe_op op_add (pv 1) pe_int)) (po_some (pe_op op_add (pv 1) (pv 2))))) (pg_name (i := 4) sc_read_point.nd rfl (Or.inl rfl)) (pss_cons (ps_if (PW.pt (pw_or (pt_cmpR op_lt (pv 4) pe_int (nomark _)) (pw_or1 (pt_cmpR op_gt (pv 4) pe_int (nomark _))))) (pss_one ps_never) pss_nil)
        (pss_one (ps_set (i := 3) sc_read_point.nd rfl (Or.inl rfl) (pe_op op_or (pe_op op_shl (pv 3) pe_int) (pe_op op_sub (pv 4) pe_int))))))
      (pss_cons (ps_if (PW.pt (pw_or (pt_cmpR op_gt (pv 3) pe_int (nomark _)) (pw_or (pt_chain op_le op_le pe_int (pv 3) pe_int) (pw_or1 (pt_cmpR op_lt (pe_call (ok_point_count T) (hr.mono (by decide)) (by rfl) T.g_point_count T.F_point_count.kp T.b_point_count .nil pass0 (pa_cons (pv 3) pa_nil)) (pv 2) (nomark _)))))) (pss_one ps_never) pss_nil)
      (pss_one (ps_ret (pv 3))))))), ?_⟩
  have hp1 : p ≤ 1114111 := hp.1
  have h4 := ptN_bd p
  have at_ : ∀ i, i < ptN p → ds[pl + i]? = (ptB p)[i]? := fun i hi => by
    rw [← hds, List.getElem?_take, if_pos hi, List.getElem?_drop]
  have byte : ∀ {σ : L2.St} {H' : Hp} {d : Nat}, σ[0]? = some (some (.ref a)) → σ[1]? = some (some (.int (pl : Int))) → Ex H H' → ds[pl]? = some d → Ev (tOp (rIxL K) (tVar 0) (tVar 1)) σ H' (.int (d : Int)) := fun h1 h2 e hd => ev_ixS (i := 0) (n := (pl : Int)) (Ev.s (ev_var h1) (ex_l e hS)) (ev_var h2) (at_of (j := pl) rfl (at_int (cs_at hd)))
  refine q_when (b := decide (ptN p = 1)) (et_is (et_test (ev_eq (ev_var rfl) ev_c rfl)) (by rw [decide_eq_decide]; exact ⟨fun h => by have := V.int.inj h; omega, fun h => by rw [h]; rfl⟩)) (fun h H1 e1 => ?_) (fun h H1 e1 => ?_)
  · have h : ptN p = 1 := of_decide_eq_true h
    have hb : ptB p = [p] := by unfold ptN at h; unfold ptB; split at h; rw [if_pos (by assumption)]; split at h; omega; split at h <;> omega
    have h0 := at_ 0 (by omega)
    rw [hb] at h0
    exact s_ret (byte rfl rfl e1 h0) fun H2 e2 => k.go (e1.trans e2)
  have h : ¬ ptN p = 1 := of_decide_eq_false h
  obtain ⟨n, hn⟩ : ∃ n, ptN p = n + 2 := ⟨ptN p - 2, by omega⟩
  have hmany := ptB_many hn
  have h0 : ds[pl]? = some (leastN (n + 2) + p / 2 ^ (6 * (n + 1))) := by
    have := at_ 0 (by omega)
    rw [Nat.add_zero, hmany] at this
    rw [this, List.getElem?_map, List.getElem?_range (by omega)]
    rfl
  rw [hn]
  refine q_asg (v := .int ((p / 2 ^ (6 * (n + 1)) : Nat) : Int)) (Ev.is (ev_I0 (byte rfl rfl e1 h0) (ev_least (ev_var rfl))) (congrArg V.int (by omega))) fun H2 e2 => ?_
  have e12 := e1.trans e2
  have hsl : (((cs ds).drop (pl + 1)).take (n + 1)) = cs ((ptB p).drop 1) := by
    rw [cs_drop, cs_take, ← hds, hn, List.drop_take, List.drop_drop]
    rfl
  refine q_forNLn (K := K) (xs := (cs ((ptB p).drop 1)).map V.int) (EvL.is (el_mid (i := pl + 1) (j := pl + (n + 2)) (Ev.s (ev_var rfl) (ex_l e12 hS)) (Ev.is (ev_I0 (ev_var rfl) ev_c) (congrArg V.int (by omega))) (Ev.is (ev_I0 (ev_var rfl) (ev_var rfl)) (congrArg V.int (by omega)))) (by rw [show pl + (n + 2) - (pl + 1) = n + 1 by omega, hsl])) (fun q i σ' H' => ∃ z, σ' = [some (.ref a), some (.int (pl : Int)), some (.int ((n + 2 : Nat) : Int)), some (.int ((p / 2 ^ (6 * (n + 1 - i)) : Nat) : Int)), z] ∧ Ex H H' ∧ H' q = some (.lst ((cs ((ptB p).drop 1)).map V.int))) (fun q H3 hq e3 g3 => ⟨none, rfl, e12.trans e3, g3⟩) (fun q i σ' H' _ h => by obtain ⟨_, _, _, g⟩ := h; exact sq_of g) ?_ ?_
  · rintro q i x σ' H3 hx ⟨z, rfl, ex, gq⟩
    obtain ⟨d, hd, hi, rfl⟩ := cs_get hx
    rw [List.length_drop, ptB_len, hn] at hi
    have hd' : d = 128 + p / 2 ^ (6 * (n - i)) % 64 := by
      rw [List.getElem?_drop, hmany, List.getElem?_map, List.getElem?_range (by omega)] at hd
      have : (if 1 + i = 0 then leastN (n + 2) + p / 2 ^ (6 * (n + 1)) else 128 + p / 2 ^ (6 * (n + 1 - (1 + i))) % 64) = d := Option.some.inj hd
      rw [if_neg (by omega), show n + 1 - (1 + i) = n - i by omega] at this
      exact this.symm
    have hq6 : p / 2 ^ (6 * (n + 1 - i)) = p / 2 ^ (6 * (n - i)) / 64 := by
      rw [show 6 * (n + 1 - i) = 6 * (n - i) + 6 by omega, Nat.pow_add, ← Nat.div_div_eq_div_mul]
    obtain ⟨y, hy⟩ : ∃ y, p / 2 ^ (6 * (n - i)) = y := ⟨_, rfl⟩
    rw [hq6, hy]
    rw [hy] at hd'
    have hyp : y ≤ p := by rw [← hy]; exact Nat.div_le_self _ _
    refine q_when (b := false) (et_is (et_or (a := false) (b := false) (et_is (et_test (ev_I0 (ev_var rfl) ev_c)) (decide_eq_false (by omega))) fun _ => et_is (et_test (ev_I0 (ev_var rfl) ev_c)) (decide_eq_false (by omega))) rfl) (fun h => by cases h) fun _ H4 e4 => ?_
    refine s_asg (v := .int ((y : Nat) : Int)) (Ev.is (ev_I0 (ev_I (ev_var rfl) ev_c (show CPow ((y / 64 : Nat) : Int) 6 from ⟨by decide, by decide, by omega⟩)) (Ev.is (ev_I0 (ev_var rfl) ev_c) (congrArg V.int (show _ = ((y % 64 : Nat) : Int) by omega)))) (congrArg V.int (or_join6 y))) fun H5 e5 => ⟨some (.int (d : Int)), by rw [show n + 1 - (i + 1) = n - i by omega, hy]; rfl, ex.trans (e4.trans e5), (e4.trans e5) _ _ gq⟩
  · rintro q σ' H3 ⟨z, rfl, ex, gq⟩
    have hlen : ((cs ((ptB p).drop 1)).map V.int).length = n + 1 := by rw [List.length_map, cs_len, List.length_drop, ptB_len, hn]; omega
    rw [hlen, Nat.sub_self, Nat.mul_zero, Nat.pow_zero, Nat.div_one]
    have hok := hp.2
    refine q_when (b := false) (et_is (et_or (a := false) (b := false) (et_is (et_test (ev_I0 (ev_var rfl) ev_c)) (decide_eq_false (by omega))) fun _ => et_or (a := false) (b := false) (et_is (et_test (ev_chain ev_c (ev_var rfl) ev_c)) ?_) fun _ => et_is (et_test (ev_I0 (ev_pcount (ev_var rfl)) (ev_var rfl))) (decide_eq_false (by omega))) rfl) (fun h => by cases h) fun _ H4 e4 => ?_
    · rw [Bool.and_eq_false_iff, decide_eq_false_iff_not, decide_eq_false_iff_not]
      omega
    · exact s_ret (ev_var rfl) fun H5 e5 => k.go (ex.trans (e4.trans e5))
theorem ev_rpoint {σ : L2.St} {H : Hp} {t1 t2 t3 : TE} {E : XK} {a : Addr} {ds : List Nat} {pl p : Nat} (h1 : Ev t1 σ H (.ref a)) (hS : SqL K H a ((cs ds).map V.int)) (h2 : Ev t2 σ H (.int (pl : Int))) (h3 : Ev t3 σ H (.int (ptN p : Int))) (hds : (ds.drop pl).take (ptN p) = ptB p) (hp : ptOk p) : Ev (tCall (sp_rpoint K) [] E (tCons t1 (tCons t2 (tCons t3 tNil)))) σ H (.int (p : Int)) :=
  ev_call (ea_cons h1 (ea_cons h2 (ea_cons h3 ea_nil))) fun H1 e Q q _ => ⟨a, ds, pl, p, rfl, ex_l e hS, hds, hp, q⟩
def sp_rutf (K : PySem.W.Frag) : Sp := fun vs H Q _ => ∃ (a : Addr) (pre ts post : List Nat), vs = [.ref a, .int (pre.length : Int), .int ((pre.length + (utfB ts).length : Nat) : Int)] ∧ SqL K H a ((cs (pre ++ (utfB ts ++ post))).map V.int) ∧ ts.length ≤ 10000 ∧ (∀ t ∈ ts, ptOk t) ∧ RetL ((cs ts).map V.int) H Q
theorem ok_read_utf8 (T : TX K mg) : FnOk P w K mg base CX0 3 T.a_read_utf8 T.d_read_utf8 ["data", "start", "stop"] (sp_rutf K) := by
  refine T.F_read_utf8.ok sc_read_utf8 (fun vs H Q E h => by obtain ⟨a, pre, ts, post, rfl, _⟩ := h; rfl) (fun cdv A outer s0 H vs Q E hr h => ?_)
  obtain ⟨a, pre, ts, post, rfl, hS, hl, ht, k⟩ := h
  refine ⟨_, (pss_cons (ps_set (i := 3) sc_read_utf8.nd rfl (Or.inl rfl) (pe_lst pa_nil))
      (pss_cons (ps_set (i := 4) sc_read_utf8.nd rfl (Or.inl rfl) (pv 1))
      (pss_cons (ps_while PassesOwn.never (pt_cmpR op_lt (pv 4) (pv 2) (nomark _)) (pss_cons (ps_set (i := 5) sc_read_utf8.nd rfl (Or.inl rfl) (pe_call (ok_count_told T) (hr.mono (by decide)) (by rfl) T.g_count_told T.F_count_told.kp T.b_count_told .nil pass0 (pa_cons (pe_ix (r := rIxL K) ix_list (pv 0) (pv 4) (fun _ _ => rfl)) pa_nil)))
        (pss_cons (ps_if (PW.pt (pw_or (pt_cmpR op_eq (pv 5) pe_int (nomark _)) (pw_or1 (pt_cmpR op_gt (pe_op op_add (pv 4) (pv 5)) (pv 2) (nomark _))))) (pss_one ps_never) pss_nil)
        (pss_cons (ps_expr (pe_bm PySem.F.plainAttrs_list PySem.F.slot_list_append PySem.F.type_list_append mt_append (pv 3) (pa_cons (pe_call (ok_read_point T) (hr.mono (by decide)) (by rfl) T.g_read_point T.F_read_point.kp T.b_read_point .nil pass0 (pa_cons (pv 0) (pa_cons (pv 4) (pa_cons (pv 5) pa_nil)))) pa_nil)))
        (pss_one (ps_aug (i := 4) sc_read_utf8.nd rfl (Or.inl rfl) (pv 5) ip_add))))))
      (pss_one (ps_ret (pv 3)))))), ?_⟩
  refine q_asgL (xs := []) (el_lst ea_nil (by decide)) fun q H1 hq e1 g1 => ?_
  refine q_asg (ev_var rfl) fun H2 e2 => ?_
  have hlen : ∀ i, i ≤ ts.length → (utfB (ts.take i)).length + (utfB (ts.drop i)).length = (utfB ts).length := fun i _ => by
    have : utfB ts = utfB (ts.take i) ++ utfB (ts.drop i) := by unfold utfB; rw [← List.flatMap_append, List.take_append_drop]
    rw [this, List.length_append]
  refine q_while (fun m σ' H' => ∃ (i : Nat) (z : Option V), m = ts.length - i ∧ i ≤ ts.length ∧ σ' = [some (.ref a), some (.int (pre.length : Int)), some (.int ((pre.length + (utfB ts).length : Nat) : Int)), some (.ref q), some (.int ((pre.length + (utfB (ts.take i)).length : Nat) : Int)), z] ∧ Ex H H' ∧ H' q = some (.lst ((cs (ts.take i)).map V.int))) ts.length ⟨0, none, rfl, Nat.zero_le _, rfl, e1.trans e2, e2 _ _ g1⟩ ?_
  rintro m σ' H3 ⟨i, z, rfl, hi, rfl, ex, gq⟩
  have hlr := utfB_len (ts.drop i)
  have hsum := hlen i hi
  rw [List.length_drop] at hlr
  refine ⟨decide (i < ts.length), et_is (et_test (ev_I0 (ev_var rfl) (ev_var rfl))) (decide_eq_decide.mpr (by omega)), fun hb H4 e4 => ?_, fun hb H4 e4 => ?_⟩
  · have hb := of_decide_eq_true hb
    have hp : ts[i]? = some ts[i] := List.getElem?_eq_getElem hb
    obtain ⟨p, hpe⟩ : ∃ p, ts[i] = p := ⟨_, rfl⟩
    rw [hpe] at hp
    have hok := ht p (List.mem_of_getElem? hp)
    obtain ⟨d, hd, hc⟩ := ptB_head hok.1
    have h4 := ptN_bd p
    have hU : utfB ts = utfB (ts.take i) ++ (ptB p ++ utfB (ts.drop (i + 1))) := by
      have : ts = ts.take i ++ (p :: ts.drop (i + 1)) := by
        rw [← hpe, List.getElem_cons_drop, List.take_append_drop]
      conv => lhs; rw [this]
      unfold utfB
      rw [List.flatMap_append]
      rfl
    have hdrop : (pre ++ (utfB ts ++ post)).drop (pre.length + (utfB (ts.take i)).length) = ptB p ++ (utfB (ts.drop (i + 1)) ++ post) := by
      rw [List.drop_append, List.drop_of_length_le (by omega), show pre.length + (utfB (ts.take i)).length - pre.length = (utfB (ts.take i)).length by omega, hU, List.append_assoc, List.drop_left, List.nil_append, List.append_assoc]
    generalize hpl : pre.length + (utfB (ts.take i)).length = pl at *
    have hat : (pre ++ (utfB ts ++ post))[pl]? = some d := by
      have := congrArg (fun l : List Nat => l[0]?) hdrop
      rw [List.getElem?_drop, Nat.add_zero] at this
      exact this.trans (by rw [List.getElem?_append_left (by rw [ptB_len]; omega)]; exact hd)
    have htk : ((pre ++ (utfB ts ++ post)).drop pl).take (ptN p) = ptB p := by rw [hdrop, ← ptB_len, List.take_left]
    have hfit : pl + ptN p ≤ pre.length + (utfB ts).length := by
      have := congrArg List.length hU
      rw [List.length_append, List.length_append, ptB_len] at this
      omega
    refine ⟨fun σ2 H2 => σ2 = [some (.ref a), some (.int (pre.length : Int)), some (.int ((pre.length + (utfB ts).length : Nat) : Int)), some (.ref q), some (.int ((pl + ptN p : Nat) : Int)), some (.int (ptN p : Int))] ∧ Ex H H2 ∧ H2 q = some (.lst ((cs (ts.take (i + 1))).map V.int)), ?_, ?_⟩
    · rintro σ2 H5 ⟨rfl, e5, g5⟩
      refine ⟨ts.length - (i + 1), by omega, i + 1, some (.int (ptN p : Int)), rfl, by omega, ?_, e5, g5⟩
      rw [utfB_snoc hp, List.length_append, ptB_len, ← Nat.add_assoc, hpl]
    refine q_asg (v := .int (ptN p : Int)) (Ev.is (ev_told (ev_ixS (i := 0) (n := (pl : Int)) (Ev.s (ev_var rfl) (ex_l (ex.trans e4) hS)) (ev_var rfl) (at_of (j := pl) rfl (at_int (cs_at hat))))) (congrArg V.int (by rw [hc]))) fun H5 e5 => ?_
    refine q_when (b := false) (et_is (et_or (a := false) (b := false) (et_is (et_test (ev_eq (ev_var rfl) ev_c rfl)) (decide_eq_false (fun h => by have := V.int.inj h; omega))) fun _ => et_is (et_test (ev_I0 (ev_I0 (ev_var rfl) (ev_var rfl)) (ev_var rfl))) (decide_eq_false (by omega))) rfl) (fun h => by cases h) fun _ H6 e6 => ?_
    have ex6 := ex.trans (e4.trans (e5.trans e6))
    refine q_app (v := .int (p : Int)) ((e4.trans (e5.trans e6)) _ _ gq) (ev_var rfl) (ev_rpoint (ev_var rfl) (ex_l ex6 hS) (ev_var rfl) (ev_var rfl) htk hok) (by rw [List.length_map, cs_len, List.length_take]; omega) fun H7 e7 => ?_
    refine s_aug (a := (pl : Int)) (b := (ptN p : Int)) rfl (ev_var rfl) fun H8 e8 => ⟨?_, (Ex.mut (ex6.trans e7) hq).trans e8, e8 _ _ ?_⟩
    · show [_, _, _, _, some (V.int ((pl : Int) + (ptN p : Int))), _] = _
      rw [show (pl : Int) + (ptN p : Int) = ((pl + ptN p : Nat) : Int) by omega]
    · rw [upd_same, show ts.take (i + 1) = ts.take i ++ [p] from by rw [List.take_add_one, hp]; rfl, cs_append, List.map_append]
      rfl
  · have hb := of_decide_eq_false hb
    have : i = ts.length := by omega
    subst this
    rw [List.take_length] at gq
    exact s_ret (v := .ref q) (ev_var rfl) fun H5 e5 => k q H5 hq (ex.trans (e4.trans e5)) ((e4.trans e5) _ _ gq)
theorem el_rutf {σ : L2.St} {H : Hp} {t1 t2 t3 : TE} {E : XK} {pre ts post : List Nat} (h1 : EvS K t1 σ H ((cs (pre ++ (utfB ts ++ post))).map V.int)) (h2 : Ev t2 σ H (.int (pre.length : Int))) (h3 : Ev t3 σ H (.int ((pre.length + (utfB ts).length : Nat) : Int))) (hl : ts.length ≤ 10000) (ht : ∀ t ∈ ts, ptOk t) : EvL (tCall (sp_rutf K) [] E (tCons t1 (tCons t2 (tCons t3 tNil)))) σ H ((cs ts).map V.int) := fun H1 e Q q =>
  h1 H1 e _ fun p H2 e2 hp => h2 H2 (e.trans e2) _ fun H3 e3 => h3 H3 ((e.trans e2).trans e3) _ fun H4 e4 => ⟨p, pre, ts, post, rfl, ex_l (e3.trans e4) hp, hl, ht, fun r H5 hr e5 g5 => q r H5 (fresh_back ((e2.trans e3).trans e4) hr) (((e2.trans e3).trans e4).trans e5) g5⟩

/-! ### new lists, draws on the way -/
def EvLW (s : Addr) (te : TE) (σ : L2.St) (H : Hp) (P : List V → Prop) : Prop := ∀ Q : VK, (∀ p xs H2, H p = none → Fr s H H2 → H2 p = some (.lst xs) → P xs → Q (.ref p) H2) → te σ H Q
section
variable {s : Addr} {σ : L2.St} {H : Hp} {ta tb te : TE} {D : Ends} {tz tu : TS} {P : List V → Prop}
theorem wl_cat {xs : List V} (st : StAt H s) (ha : EvL ta σ H xs) (hb : ∀ H1, Fr s H H1 → EvLW s tb σ H1 P) (hl : ∀ ys, P ys → xs.length + ys.length ≤ 100000) : EvLW s (tOp rCat ta tb) σ H (fun zs => ∃ ys, P ys ∧ zs = xs ++ ys) := fun Q k =>
  ha H (Ex.refl _) _ fun p H1 hp e1 g1 => hb H1 (Fr.ex st e1) _ fun r ys H2 hr f2 g2 hy => ⟨p, r, xs, ys, rfl, rfl, f2.l (ne_st st hp) g1, g2, sz_of (hl ys hy), fun l hl' => by
    have f02 : Fr s H H2 := (Fr.ex st e1).trans f2
    exact k l _ _ (f02.fresh hl') (f02.tex (Ex.new hl')) upd_same ⟨ys, hy, rfl⟩⟩
theorem qw_asgL {i : Nat} (h : EvLW s te σ H P) (k : ∀ p xs H1, H p = none → Fr s H H1 → H1 p = some (.lst xs) → P xs → tz D (σ.set i (some (.ref p))) H1) : tSeq (tAsg te (gName i)) tz D σ H := h _ k
theorem sw_asgL {i : Nat} (h : EvLW s te σ H P) (k : ∀ p xs H1, H p = none → Fr s H H1 → H1 p = some (.lst xs) → P xs → D.nx (σ.set i (some (.ref p))) H1) : tAsg te (gName i) D σ H := h _ k
/-- [e for j in range(n)], n drawn, e draws -/
theorem tlc_rngWW {te0 : TE} {vs : List Nat} {j : Nat} {Q : VK} {p : Int → Prop} (h : EvI s te0 σ H p) (hp : ∀ i, p i → 0 ≤ i ∧ i ≤ 100000)
    (k : ∀ n H1, p n → Fr s H H1 → ∀ Dl, H1 Dl = none → ∃ Pv : Nat → Hp → Prop, Pv 0 (upd H1 Dl (.lst [])) ∧ (∀ (i : Nat) H', i < n.toNat → Pv i H' → wipe ((wipe σ vs).set j (some (.int (i : Int)))) vs = wipe σ vs ∧ te ((wipe σ vs).set j (some (.int (i : Int)))) H' fun y H4 => ∃ acc, H4 Dl = some (.lst acc) ∧ acc.length < sizeLine ∧ Pv (i + 1) (upd H4 Dl (.lst (acc ++ [y])))) ∧ (∀ H', Pv n.toNat H' → Q (.ref Dl) H')) :
    tLc (iRng1 (tCons te0 tNil)) (gName j) tYes te vs σ H Q := h _ fun n H1 f1 hn => ⟨n, rfl, by have := hp n hn; omega, by have := hp n hn; omega, fun Dl hD => by
  obtain ⟨Pv, h0, hs, hd⟩ := k n H1 hn f1 Dl hD
  refine lc_range (lo := 0) (n := n.toNat) Pv h0 (fun i H' hi p => ?_) hd
  rw [Int.zero_add]
  exact hs i H' hi p⟩
end

theorem wl_junk {s a : Addr} {ns : List Int} {σ : L2.St} {H : Hp} {tn : TE} {E : XK} {i j : Nat} {p : Int → Prop} (hd : DrS K H s a ns) (h1 : σ[i]? = some (some (.ref s))) (h2 : σ[j]? = some (some (.ref a))) (h3 : EvI s tn σ H p) (hp : ∀ z, p z → 0 ≤ z ∧ z ≤ 1000) :
    EvLW s (tCall (sp_junk K) [] E (tCons (tVar i) (tCons (tVar j) (tCons tn tNil)))) σ H (fun xs => ∃ ds : List Nat, xs = (cs ds).map V.int ∧ ds.length ≤ 1000 ∧ p (ds.length : Int) ∧ ∀ d ∈ ds, d < 256) := fun Q q =>
  ⟨_, h1, ⟨_, h2, h3 _ fun n H1 f1 hn => by
    have hn2 := hp n hn
    exact ⟨s, a, ns, n.toNat, by rw [Int.toNat_of_nonneg hn2.1]; rfl, hd.fr f1, by omega, fun r ds H2 hr f2 g2 hl hb => q r _ H2 (f1.fresh hr) (f1.trans f2) g2 ⟨ds, rfl, by omega, by rw [hl, Int.toNat_of_nonneg hn2.1]; exact hn, hb⟩⟩⟩⟩
theorem sw_setLR {s : Addr} {σ : L2.St} {H : Hp} {te ta tb : TE} {l : Addr} {xs : List V} {j : Nat} {D : Ends} {P : V → Prop} (h : ∀ Q : VK, (∀ v H1, Fr s H H1 → P v → Q v H1) → te σ H Q) (hls : l ≠ s) (hl : H l = some (.lst xs)) (ho : ∀ H1, Ev ta σ H1 (.ref l)) (hi : ∀ H1, Ev tb σ H1 (.int (j : Int))) (hj : j < xs.length) (k : ∀ v H1, P v → Fr s H H1 → D.nx σ (upd H1 l (.lst (xs.set j v)))) : tAsg te (gSub ta tb rSetL) D σ H :=
  h _ fun v H1 f1 hv => ho H1 H1 (Ex.refl _) _ fun H2 e2 => hi H2 H2 (Ex.refl _) _ fun H3 e3 => ⟨l, xs, (j : Int), j, rfl, rfl, (e2.trans e3) l _ (f1.l hls hl), ixN_nat hj, k v H3 hv (f1.tex (e2.trans e3))⟩
theorem qw_setLR {s : Addr} {σ : L2.St} {H : Hp} {te ta tb : TE} {l : Addr} {xs : List V} {j : Nat} {D : Ends} {tz : TS} {P : V → Prop} (h : ∀ Q : VK, (∀ v H1, Fr s H H1 → P v → Q v H1) → te σ H Q) (hls : l ≠ s) (hl : H l = some (.lst xs)) (ho : ∀ H1, Ev ta σ H1 (.ref l)) (hi : ∀ H1, Ev tb σ H1 (.int (j : Int))) (hj : j < xs.length) (k : ∀ v H1, P v → Fr s H H1 → tz D σ (upd H1 l (.lst (xs.set j v)))) : tSeq (tAsg te (gSub ta tb rSetL)) tz D σ H := sw_setLR (D := { D with nx := tz D }) h hls hl ho hi hj k
/-- a list of mine may change -/
theorem Fr.upd {s l : Addr} {H1 : Hp} {o : HO} (h : StAt H1 s) (hl : l ≠ s) : StAt (upd H1 l o) s := by obtain ⟨k, c, g⟩ := h; exact ⟨k, c, by rw [upd_ne (Ne.symm hl)]; exact g⟩
theorem cs_inj {a b : List Nat} (h : cs a = cs b) : a = b := by
  unfold cs at h
  exact (List.map_inj_right fun x y e => Int.ofNat.inj e).mp h
theorem cs_eqd (a b : List Nat) : decide (cs a = cs b) = decide (a = b) := decide_eq_decide.mpr ⟨cs_inj, fun h => by rw [h]⟩
theorem cs_set (ds : List Nat) (i d : Nat) : (cs ds).set i (d : Int) = cs (ds.set i d) := by unfold cs; rw [List.map_set]

theorem wl_catR {s l : Addr} {σ : L2.St} {H : Hp} {ta tb : TE} {P : List V → Prop} {xs : List V} (st : StAt H s) (ha : Ev ta σ H (.ref l)) (hls : l ≠ s) (hx : H l = some (.lst xs)) (hb : ∀ H1, Fr s H H1 → EvLW s tb σ H1 P) (hl : ∀ ys, P ys → xs.length + ys.length ≤ 100000) : EvLW s (tOp rCat ta tb) σ H (fun zs => ∃ ys, P ys ∧ zs = xs ++ ys) := fun Q k =>
  ha H (Ex.refl _) _ fun H1 e1 => hb H1 (Fr.ex st e1) _ fun r ys H2 hr f2 g2 hy => ⟨l, r, xs, ys, rfl, rfl, f2.l hls (e1 _ _ hx), g2, sz_of (hl ys hy), fun q hq => by
    have f02 : Fr s H H2 := (Fr.ex st e1).trans f2
    exact k q _ _ (f02.fresh hq) (f02.tex (Ex.new hq)) upd_same ⟨ys, hy, rfl⟩⟩
theorem wl_rep {s : Addr} {σ : L2.St} {H : Hp} {ta tb : TE} {x : V} {p : Int → Prop} (st : StAt H s) (ha : EvL ta σ H [x]) (hb : ∀ H1, Fr s H H1 → EvI s tb σ H1 p) (hp : ∀ z, p z → 0 ≤ z ∧ z ≤ 1000) : EvLW s (tOp rRep ta tb) σ H (fun ys => ∃ n : Nat, p (n : Int) ∧ n ≤ 1000 ∧ ys = List.replicate n x) := fun Q k =>
  ha H (Ex.refl _) _ fun q H1 hq e1 g1 => hb H1 (Fr.ex st e1) _ fun i H2 f2 hi => ⟨q, i, [x], rfl, rfl, f2.l (ne_st st hq) g1, by have := hp i hi; omega, by have := hp i hi; omega, sz_of (by have := hp i hi; show 1 * i.toNat ≤ 100000; omega), fun l hl => by
    have h2 := hp i hi
    have f02 : Fr s H H2 := (Fr.ex st e1).trans f2
    exact k l _ _ (f02.fresh hl) (f02.tex (Ex.new hl)) upd_same ⟨i.toNat, by rw [Int.toNat_of_nonneg h2.1]; exact hi, by omega, rep_one _⟩⟩
theorem cs_rep (n x : Nat) : List.replicate n (V.int (x : Int)) = (cs (List.replicate n x)).map V.int := by
  unfold cs
  rw [List.map_replicate, List.map_replicate]
/-- xs[e], xs a list of numbers that stands there, e drawn -/
theorem wi_ixL {s : Addr} {σ : L2.St} {H : Hp} {ta tb : TE} {xs : List Nat} {q : Int → Prop} (st : StAt H s) (ha : EvL ta σ H ((cs xs).map V.int)) (hb : ∀ H1, Fr s H H1 → EvI s tb σ H1 q) (hq : ∀ z, q z → ∃ j : Nat, z = (j : Int) ∧ j < xs.length) : EvI s (tOp (rIxL K) ta tb) σ H (fun z => ∃ x : Nat, z = (x : Int) ∧ x ∈ xs) := fun Q k =>
  ha H (Ex.refl _) _ fun p H1 hp e1 g1 => hb H1 (Fr.ex st e1) _ fun i H2 f2 hi => by
    obtain ⟨j, rfl, hj⟩ := hq i hi
    have hx : xs[j]? = some xs[j] := List.getElem?_eq_getElem hj
    exact ⟨p, _, (j : Int), .int ((xs[j] : Nat) : Int), rfl, rfl, sq_of (f2.l (ne_st st hp) g1), at_of (j := j) rfl (at_int (cs_at hx)), k _ H2 ((Fr.ex st e1).trans f2) ⟨xs[j], rfl, List.mem_of_getElem? hx⟩⟩

/-! ### objects: fields, methods, making -/
section
variable {K : PySem.W.Frag} {σ : L2.St} {H : Hp} {to te tv : TE} {a C : Addr} {dx : Addr} {fs : List (Str × V)} {f m : Str} {v : V} {D : Ends} {tz : TS} {sp : Sp} {dvs vs : List V} {E : XK} {t : TA}
theorem ev_fld (c : Cls K C) (hn : NoAttr K C f) (h : Ev to σ H (.ref a)) (hx : H a = some (.ins C dx fs)) (hl : fs.lookup f = some v) : Ev (tFld K to f) σ H v := fun H1 e Q q => h H1 e _ fun H2 e2 => ⟨a, C, dx, fs, v, rfl, (e.trans e2) _ _ hx, c, hn, hl, q H2 e2⟩
theorem q_fld (c : Cls K C) (hn : NoAttr K C f) (hv : Ev tv σ H v) (h : Ev to σ H (.ref a)) (hx : H a = some (.ins C dx fs)) (hl : fs.length < 1000) (k : ∀ H1, Ex H H1 → tz D σ (upd H1 a (.ins C dx (putF f v fs)))) : tSeq (sFld K to tv f) tz D σ H :=
  hv H (Ex.refl H) _ fun H1 e1 => h H1 e1 _ fun H2 e2 => ⟨a, C, dx, fs, rfl, (e1.trans e2) _ _ hx, c, hn, hl, k H2 (e1.trans e2)⟩
theorem s_fld (c : Cls K C) (hn : NoAttr K C f) (hv : Ev tv σ H v) (h : Ev to σ H (.ref a)) (hx : H a = some (.ins C dx fs)) (hl : fs.length < 1000) (k : ∀ H1, Ex H H1 → D.nx σ (upd H1 a (.ins C dx (putF f v fs)))) : sFld K to tv f D σ H :=
  hv H (Ex.refl H) _ fun H1 e1 => h H1 e1 _ fun H2 e2 => ⟨a, C, dx, fs, rfl, (e1.trans e2) _ _ hx, c, hn, hl, k H2 (e1.trans e2)⟩
theorem q_fldL {xs : List V} (c : Cls K C) (hn : NoAttr K C f) (hv : EvL tv σ H xs) (h : ∀ H1, Ex H H1 → Ev to σ H1 (.ref a)) (hx : H a = some (.ins C dx fs)) (hl : fs.length < 1000) (k : ∀ p H1, H p = none → Ex H H1 → H1 p = some (.lst xs) → tz D σ (upd H1 a (.ins C dx (putF f (.ref p) fs)))) : tSeq (sFld K to tv f) tz D σ H :=
  hv H (Ex.refl H) _ fun p H1 hp e1 g1 => h H1 e1 H1 (Ex.refl H1) _ fun H2 e2 => ⟨a, C, dx, fs, rfl, (e1.trans e2) _ _ hx, c, hn, hl, k p H2 hp (e1.trans e2) (e2 _ _ g1)⟩
/-- o.m(..), whatever m promises -/
theorem mth (h : Ev to σ H (.ref a)) (hx : H a = some (.ins C dx fs)) (hm : fs.lookup m = none) (ha : EvA t σ H vs) {Q : VK} (k : ∀ H1, Ex H H1 → sp (.ref a :: (vs ++ dvs)) H1 Q E) : tMeth C m sp dvs E to t σ H Q :=
  h H (Ex.refl H) _ fun H1 e1 => ⟨a, dx, fs, rfl, e1 _ _ hx, hm, ha H1 e1 _ fun H2 e2 => k H2 (e1.trans e2)⟩
theorem q_dropM (h : Ev to σ H (.ref a)) (hx : H a = some (.ins C dx fs)) (hm : fs.lookup m = none) (ha : EvA t σ H vs) (k : ∀ H1, Ex H H1 → sp (.ref a :: (vs ++ dvs)) H1 (fun _ H2 => tz D σ H2) E) : tSeq (tDrop (tMeth C m sp dvs E to t)) tz D σ H := mth h hx hm ha k
theorem s_dropM (h : Ev to σ H (.ref a)) (hx : H a = some (.ins C dx fs)) (hm : fs.lookup m = none) (ha : EvA t σ H vs) (k : ∀ H1, Ex H H1 → sp (.ref a :: (vs ++ dvs)) H1 (fun _ H2 => D.nx σ H2) E) : tDrop (tMeth C m sp dvs E to t) D σ H := mth h hx hm ha k
theorem q_asgM {i : Nat} (h : Ev to σ H (.ref a)) (hx : H a = some (.ins C dx fs)) (hm : fs.lookup m = none) (ha : EvA t σ H vs) (k : ∀ H1, Ex H H1 → sp (.ref a :: (vs ++ dvs)) H1 (fun x H2 => tz D (σ.set i (some x)) H2) E) : tSeq (tAsg (tMeth C m sp dvs E to t) (gName i)) tz D σ H := mth h hx hm ha k
theorem s_retM (h : Ev to σ H (.ref a)) (hx : H a = some (.ins C dx fs)) (hm : fs.lookup m = none) (ha : EvA t σ H vs) (k : ∀ H1, Ex H H1 → sp (.ref a :: (vs ++ dvs)) H1 D.rt E) : tRet (tMeth C m sp dvs E to t) D σ H := mth h hx hm ha k
/-- a method that changes nothing and gives a value -/
theorem ev_mth (h : Ev to σ H (.ref a)) (hx : H a = some (.ins C dx fs)) (hm : fs.lookup m = none) (ha : EvA t σ H vs) (k : SpV sp (.ref a :: (vs ++ dvs)) H v) : Ev (tMeth C m sp dvs E to t) σ H v := fun H1 e Q q =>
  h H1 e _ fun H2 e2 => ⟨a, dx, fs, rfl, (e.trans e2) _ _ hx, hm, ha H2 (e.trans e2) _ fun H3 e3 => k H3 ((e.trans e2).trans e3) Q (fun H4 e4 => q H4 ((e2.trans e3).trans e4)) E⟩
end
theorem fresh_ne {H : Hp} {p q : Addr} {o : HO} (hp : H p = none) (hq : H q = some o) : q ≠ p := ne_of_none hq hp
theorem bitNot_eq (x : Int) : Builtin.bitNot x = -x - 1 := rfl
theorem bitAnd_maskZ (x : Int) (k : Nat) : Builtin.bitAnd x (2 ^ k - 1) = x % 2 ^ k := by
  by_cases h : 0 ≤ x
  · exact _root_.Bits.bitAnd_mask k h
  · have hp : (1 : Int) ≤ 2 ^ k := by
      have : 0 < 2 ^ k := Nat.two_pow_pos k
      have h2 : ((2 : Int) ^ k) = ((2 ^ k : Nat) : Int) := by rw [Int.natCast_pow]; rfl
      omega
    rw [PyProof.Rows.bitAnd_np h (by omega), Nat.and_comm]
    have h2 : ((2 : Int) ^ k) = ((2 ^ k : Nat) : Int) := by rw [Int.natCast_pow]; rfl
    have h3 : ((2 : Int) ^ k - 1).toNat = 2 ^ k - 1 := by omega
    rw [h3, Nat.and_two_pow_sub_one_eq_mod, bitNot_eq]
    have h4 : ((-x - 1).toNat : Int) = -x - 1 := by omega
    rw [h2, Int.natCast_emod, h4]
    generalize 2 ^ k = m at *
    have hm : (0 : Int) < (m : Int) := by omega
    have e1 := Int.emod_add_mul_ediv x m
    have e2 := Int.emod_add_mul_ediv (-x - 1) m
    have a1 := Int.emod_nonneg x (by omega : (m : Int) ≠ 0)
    have a2 := Int.emod_lt_of_pos x hm
    have b1 := Int.emod_nonneg (-x - 1) (by omega : (m : Int) ≠ 0)
    have b2 := Int.emod_lt_of_pos (-x - 1) hm
    generalize x % (m : Int) = r at *
    generalize (-x - 1) % (m : Int) = s at *
    generalize x / (m : Int) = p at *
    generalize (-x - 1) / (m : Int) = q at *
    -- r + s + 1 is a multiple of m between 1 and 2m - 1
    have e3 : r + s + 1 = m * (-(p + q)) := by
      rw [Int.mul_neg, Int.mul_add]
      omega
    have h5 : -(p + q) = 1 := by
      have c1 : 0 < (m : Int) * (-(p + q)) := by omega
      have c2 : (m : Int) * (-(p + q)) < m * 2 := by omega
      have c3 := Int.pos_of_mul_pos_right (a := (m : Int)) (b := -(p + q)) (by exact c1) hm
      have c4 : -(p + q) < 2 := Int.lt_of_mul_lt_mul_left c2 (by omega)
      omega
    rw [h5, Int.mul_one] at e3
    omega
theorem q_fldaugI {K : PySem.W.Frag} {σ : L2.St} {H : Hp} {to tv : TE} {a C dx : Addr} {fs : List (Str × V)} {f : Str} {i j : Int} {D : Ends} {tz : TS} (c : Cls K C) (hn : NoAttr K C f) (h : Ev to σ H (.ref a)) (hx : H a = some (.ins C dx fs)) (hl : fs.lookup f = some (.int i)) (hv : Ev tv σ H (.int j)) (hz : fs.length < 1000)
    (k : ∀ H1, Ex H H1 → tz D σ (upd H1 a (.ins C dx (putF f (.int (i + j)) fs)))) : tSeq (sFldAug K to tv rAdd f) tz D σ H :=
  h H (Ex.refl H) _ fun H1 e1 => ⟨a, C, dx, fs, .int i, rfl, e1 _ _ hx, c, hn, hl, hv H1 e1 _ fun H2 e2 => ⟨i, j, rfl, rfl, dx, fs, (e1.trans e2) _ _ hx, hz, k H2 (e1.trans e2)⟩⟩
/-- [e for j in range(n)] whose element changes objects -/
theorem tlc_rngM {ta : TA} {te : TE} {vs : List Nat} {n : Int} {j : Nat} {σ : L2.St} {H : Hp} {Q : VK} (h : EvA ta σ H [.int n]) (hn : -100000 ≤ n ∧ n ≤ 100000)
    (k : ∀ H1, Ex H H1 → ∀ Dl, H1 Dl = none → ∃ Pv : Nat → Hp → Prop, Pv 0 (upd H1 Dl (.lst [])) ∧ (∀ (i : Nat) H', i < n.toNat → Pv i H' → wipe ((wipe σ vs).set j (some (.int (i : Int)))) vs = wipe σ vs ∧ te ((wipe σ vs).set j (some (.int (i : Int)))) H' fun y H4 => ∃ acc, H4 Dl = some (.lst acc) ∧ acc.length < sizeLine ∧ Pv (i + 1) (upd H4 Dl (.lst (acc ++ [y])))) ∧ (∀ H', Pv n.toNat H' → Q (.ref Dl) H')) :
    tLc (iRng1 ta) (gName j) tYes te vs σ H Q := h H (Ex.refl H) _ fun H1 e1 => ⟨n, rfl, by omega, by omega, fun Dl hD => by
  obtain ⟨Pv, h0, hs, hd⟩ := k H1 e1 Dl hD
  refine lc_range (lo := 0) (n := n.toNat) Pv h0 (fun i H' hi p => ?_) hd
  rw [Int.zero_add]
  exact hs i H' hi p⟩

/-! ### objects that are made once -/
def FrO (a : Addr) (H H' : Hp) : Prop := ∀ b o, b ≠ a → H b = some o → H' b = some o
theorem FrO.ex {a : Addr} {H H' : Hp} (e : Ex H H') : FrO a H H' := fun b o _ h => e b o h
theorem FrO.trans {a : Addr} {H H1 H2 : Hp} (x : FrO a H H1) (y : FrO a H1 H2) : FrO a H H2 := fun b o hb h => y b o hb (x b o hb h)
theorem FrO.upd {a : Addr} {H H' : Hp} {o : HO} (f : FrO a H H') : FrO a H (upd H' a o) := fun b u hb h => by rw [upd_ne hb]; exact f b u hb h
def EvN (te : TE) (σ : L2.St) (H : Hp) (R : Addr → Hp → Prop) : Prop := ∀ H1, Ex H H1 → ∀ Q : VK, (∀ p H2, H1 p = none → Ex H1 H2 → R p H2 → Q (.ref p) H2) → te σ H1 Q
section
variable {K : PySem.W.Frag} {σ : L2.St} {H : Hp} {te ta tb : TE} {C : Addr} {sp : Sp} {dvs vs zs : List V} {E : XK} {t tk : TA} {R : Addr → Hp → Prop} {D : Ends} {tz : TS} {n m i : Nat} {gV : List V → List V → List V}
theorem en_make (h : EvA t σ H vs) (k : ∀ a dx H1 (Q : VK) (E : XK), Ex H H1 → H1 a = some (.ins C dx []) → (∀ H', FrO a H1 H' → R a H' → Q .non H') → sp (.ref a :: (vs ++ dvs)) H1 Q E) : EvN (tMake C sp dvs E t) σ H R := fun H1 e Q q =>
  h H1 e _ fun H2 e2 => fun x dx hx hdx hne => k x dx _ _ _ ((e.trans e2).trans (Ex.mut (Ex.new hdx) hx)) upd_same fun H' hF hR => ⟨rfl, q x H' (fresh_back e2 hx) (fun b o hb => hF b o (fresh_ne hx (e2 b o hb)) ((Ex.mut (Ex.new hdx) hx) b o (e2 b o hb))) hR⟩
theorem en_makeK (h : EvA t σ H vs) (hz : EvA tk σ H zs) (l1 : vs.length = n) (l2 : zs.length = m) (k : ∀ a dx H1 (Q : VK) (E : XK), Ex H H1 → H1 a = some (.ins C dx []) → (∀ H', FrO a H1 H' → R a H' → Q .non H') → sp (gV (.ref a :: vs) zs) H1 Q E) : EvN (tMakeK C n m sp gV E t tk) σ H R := fun H1 e Q q =>
  h H1 e _ fun H2 e2 => hz H2 (e.trans e2) _ fun H3 e3 => ⟨l1, l2, fun x dx hx hdx hne => k x dx _ _ _ (((e.trans e2).trans e3).trans (Ex.mut (Ex.new hdx) hx)) upd_same fun H' hF hR => ⟨rfl, q x H' (fresh_back (e2.trans e3) hx) (fun b o hb => hF b o (fresh_ne hx ((e2.trans e3) b o hb)) ((Ex.mut (Ex.new hdx) hx) b o ((e2.trans e3) b o hb))) hR⟩⟩
theorem en_makeF (h : EvA t σ H vs) (k : ∀ a dx H1 (Q : VK) (E : XK), Ex H H1 → H a = none → H1 a = some (.ins C dx []) → (∀ H', FrO a H1 H' → R a H' → Q .non H') → sp (.ref a :: (vs ++ dvs)) H1 Q E) : EvN (tMake C sp dvs E t) σ H R := fun H1 e Q q =>
  h H1 e _ fun H2 e2 => fun x dx hx hdx hne => k x dx _ _ _ ((e.trans e2).trans (Ex.mut (Ex.new hdx) hx)) (fresh_back (e.trans e2) hx) upd_same fun H' hF hR => ⟨rfl, q x H' (fresh_back e2 hx) (fun b o hb => hF b o (fresh_ne hx (e2 b o hb)) ((Ex.mut (Ex.new hdx) hx) b o (e2 b o hb))) hR⟩
theorem en_makeKF (h : EvA t σ H vs) (hz : EvA tk σ H zs) (l1 : vs.length = n) (l2 : zs.length = m) (k : ∀ a dx H1 (Q : VK) (E : XK), Ex H H1 → H a = none → H1 a = some (.ins C dx []) → (∀ H', FrO a H1 H' → R a H' → Q .non H') → sp (gV (.ref a :: vs) zs) H1 Q E) : EvN (tMakeK C n m sp gV E t tk) σ H R := fun H1 e Q q =>
  h H1 e _ fun H2 e2 => hz H2 (e.trans e2) _ fun H3 e3 => ⟨l1, l2, fun x dx hx hdx hne => k x dx _ _ _ (((e.trans e2).trans e3).trans (Ex.mut (Ex.new hdx) hx)) (fresh_back ((e.trans e2).trans e3) hx) upd_same fun H' hF hR => ⟨rfl, q x H' (fresh_back (e2.trans e3) hx) (fun b o hb => hF b o (fresh_ne hx ((e2.trans e3) b o hb)) ((Ex.mut (Ex.new hdx) hx) b o ((e2.trans e3) b o hb))) hR⟩⟩
/-- what stood before the object was made stands -/
theorem FrO.after {a : Addr} {H0 G H' : Hp} (f : FrO a G H') (e : Ex H0 G) (hn : H0 a = none) : Ex H0 H' := fun b o hb => f b o (by rintro rfl; rw [hn] at hb; cases hb) (e b o hb)
theorem q_asgN (h : EvN te σ H R) (k : ∀ p H1, H p = none → Ex H H1 → R p H1 → tz D (σ.set i (some (.ref p))) H1) : tSeq (tAsg te (gName i)) tz D σ H := h H (Ex.refl H) _ k
theorem s_asgN (h : EvN te σ H R) (k : ∀ p H1, H p = none → Ex H H1 → R p H1 → D.nx (σ.set i (some (.ref p))) H1) : tAsg te (gName i) D σ H := h H (Ex.refl H) _ k
theorem s_retN (h : EvN te σ H R) (k : ∀ p H1, H p = none → Ex H H1 → R p H1 → D.rt (.ref p) H1) : tRet te D σ H := h H (Ex.refl H) _ k
theorem el_if {c : TT} {b : Bool} {xs : List V} (h : EvT c σ H b) (h1 : b = true → EvL ta σ H xs) (h2 : b = false → EvL tb σ H xs) : EvL (tIf c ta tb) σ H xs := fun H1 e Q q => h H1 e _ fun H2 e2 => by
  cases b with
  | true =>
    rw [if_pos rfl]
    exact h1 rfl H2 (e.trans e2) Q fun p H3 hp e3 g => q p H3 (fresh_back e2 hp) (e2.trans e3) g
  | false =>
    rw [if_neg (by decide)]
    exact h2 rfl H2 (e.trans e2) Q fun p H3 hp e3 g => q p H3 (fresh_back e2 hp) (e2.trans e3) g
theorem s_fldL {a dx : Addr} {fs : List (Str × V)} {f : Str} {to tv : TE} {xs : List V} (c : Cls K C) (hn : NoAttr K C f) (hv : EvL tv σ H xs) (h : ∀ H1, Ex H H1 → Ev to σ H1 (.ref a)) (hx : H a = some (.ins C dx fs)) (hl : fs.length < 1000) (k : ∀ p H1, H p = none → Ex H H1 → H1 p = some (.lst xs) → D.nx σ (upd H1 a (.ins C dx (putF f (.ref p) fs)))) : sFld K to tv f D σ H :=
  hv H (Ex.refl H) _ fun p H1 hp e1 g1 => h H1 e1 H1 (Ex.refl H1) _ fun H2 e2 => ⟨a, C, dx, fs, rfl, (e1.trans e2) _ _ hx, c, hn, hl, k p H2 hp (e1.trans e2) (e2 _ _ g1)⟩
end

/-! ### arguments some of which are new objects -/
def EvAP (t : TA) (σ : L2.St) (H : Hp) (R : List V → Hp → Prop) : Prop := ∀ H1, Ex H H1 → ∀ Q : List V → Hp → Prop, (∀ vs H2, Ex H1 H2 → R vs H2 → Q vs H2) → t σ H1 Q
section
variable {K : PySem.W.Frag} {σ : L2.St} {H : Hp} {te : TE} {tr t : TA} {x : V} {xs : List V} {R : List V → Hp → Prop} {C : Addr} {sp : Sp} {dvs : List V} {E : XK} {S : Addr → Hp → Prop} {D : Ends} {tz : TS} {i : Nat}
theorem ap_nil : EvAP tNil σ H fun vs _ => vs = [] := fun H1 _ _ q => q [] H1 (Ex.refl H1) rfl
theorem ap_ev (h : Ev te σ H x) (hr : EvAP tr σ H R) : EvAP (tCons te tr) σ H fun vs G => ∃ r, vs = x :: r ∧ R r G := fun H1 e Q q =>
  h H1 e _ fun H2 e2 => hr H2 (e.trans e2) _ fun vs H3 e3 hR => q (x :: vs) H3 (e2.trans e3) ⟨vs, rfl, hR⟩
theorem ap_l (h : EvL te σ H xs) (hr : EvAP tr σ H R) : EvAP (tCons te tr) σ H fun vs G => ∃ p r, vs = .ref p :: r ∧ H p = none ∧ G p = some (.lst xs) ∧ R r G := fun H1 e Q q =>
  h H1 e _ fun p H2 hp e2 g => hr H2 (e.trans e2) _ fun vs H3 e3 hR => q (.ref p :: vs) H3 (e2.trans e3) ⟨p, vs, rfl, fresh_back e hp, e3 _ _ g, hR⟩
theorem ap_u (h : EvU te σ H xs) (hr : EvAP tr σ H R) : EvAP (tCons te tr) σ H fun vs G => ∃ p r, vs = .ref p :: r ∧ H p = none ∧ G p = some (.tup xs) ∧ R r G := fun H1 e Q q =>
  h H1 e _ fun p H2 hp e2 g => hr H2 (e.trans e2) _ fun vs H3 e3 hR => q (.ref p :: vs) H3 (e2.trans e3) ⟨p, vs, rfl, fresh_back e hp, e3 _ _ g, hR⟩
theorem en_makeAP (h : EvAP t σ H R) (k : ∀ vs a dx H1 (Q : VK) (E : XK), Ex H H1 → (∃ G, Ex G H1 ∧ R vs G) → H1 a = some (.ins C dx []) → (∀ H', FrO a H1 H' → S a H' → Q .non H') → sp (.ref a :: (vs ++ dvs)) H1 Q E) : EvN (tMake C sp dvs E t) σ H S := fun H1 e Q q =>
  h H1 e _ fun vs H2 e2 hR => fun x dx hx hdx hne => k vs x dx _ _ _ ((e.trans e2).trans (Ex.mut (Ex.new hdx) hx)) ⟨H2, Ex.mut (Ex.new hdx) hx, hR⟩ upd_same fun H' hF hS => ⟨rfl, q x H' (fresh_back e2 hx) (fun b o hb => hF b o (fresh_ne hx (e2 b o hb)) ((Ex.mut (Ex.new hdx) hx) b o (e2 b o hb))) hS⟩
theorem q_asgAP (h : EvAP t σ H R) (k : ∀ vs H1, Ex H H1 → R vs H1 → sp (vs ++ dvs) H1 (fun x H2 => tz D (σ.set i (some x)) H2) E) : tSeq (tAsg (tCall sp dvs E t) (gName i)) tz D σ H := h H (Ex.refl H) _ fun vs H1 e hR => k vs H1 e hR
theorem s_retAP (h : EvAP t σ H R) (k : ∀ vs H1, Ex H H1 → R vs H1 → sp (vs ++ dvs) H1 D.rt E) : tRet (tCall sp dvs E t) D σ H := h H (Ex.refl H) _ fun vs H1 e hR => k vs H1 e hR
end

/-! ### values of which something is told -/
def EvX (te : TE) (σ : L2.St) (H : Hp) (S : V → Hp → Prop) : Prop := ∀ H1, Ex H H1 → ∀ Q : VK, (∀ v H2, Ex H1 H2 → S v H2 → Q v H2) → te σ H1 Q
def Up (S : V → Hp → Prop) : Prop := ∀ v H H', Ex H H' → S v H → S v H'
section
variable {K : PySem.W.Frag} {σ : L2.St} {H : Hp} {te ta tb : TE} {tr t : TA} {R : List V → Hp → Prop} {C : Addr} {sp : Sp} {dvs : List V} {E : XK} {S S' S2 : V → Hp → Prop} {D : Ends} {tz : TS} {i : Nat}
theorem Ev.x {v : V} (h : Ev te σ H v) (hS : ∀ H1, Ex H H1 → S v H1) : EvX te σ H S := fun H1 e Q q => h H1 e _ fun H2 e2 => q v H2 e2 (hS H2 (e.trans e2))
theorem EvN.x {R' : Addr → Hp → Prop} (h : EvN te σ H R') (hS : ∀ p H1, Ex H H1 → R' p H1 → S (.ref p) H1) : EvX te σ H S := fun H1 e Q q => h H1 e _ fun p H2 _ e2 hR => q (.ref p) H2 e2 (hS p H2 (e.trans e2) hR)
theorem ex_call1 (h : EvX te σ H S) (k : ∀ v H1 (Q : VK) (E : XK), Ex H H1 → S v H1 → (∀ v' H2, Ex H1 H2 → S' v' H2 → Q v' H2) → sp ([v] ++ dvs) H1 Q E) : EvX (tCall sp dvs E (tCons te tNil)) σ H S' := fun H1 e Q q =>
  h H1 e _ fun v H2 e2 hS => k v H2 _ _ (e.trans e2) hS fun v' H3 e3 hS' => q v' H3 (e2.trans e3) hS'
theorem ex_call2 (h : EvX ta σ H S) (hu : Up S) (h2 : EvX tb σ H S2) (k : ∀ v w H1 (Q : VK) (E : XK), Ex H H1 → S v H1 → S2 w H1 → (∀ v' H2, Ex H1 H2 → S' v' H2 → Q v' H2) → sp ([v, w] ++ dvs) H1 Q E) : EvX (tCall sp dvs E (tCons ta (tCons tb tNil))) σ H S' := fun H1 e Q q =>
  h H1 e _ fun v H2 e2 hS => h2 H2 (e.trans e2) _ fun w H3 e3 hS2 => k v w H3 _ _ ((e.trans e2).trans e3) (hu _ _ _ e3 hS) hS2 fun v' H4 e4 hS' => q v' H4 ((e2.trans e3).trans e4) hS'
theorem EvX.val {v : V} (h : EvX te σ H fun x _ => x = v) : Ev te σ H v := fun H1 e Q q => h H1 e _ fun x H2 e2 hx => by rw [hx]; exact q H2 e2
theorem q_asgX (h : EvX te σ H S) (k : ∀ v H1, Ex H H1 → S v H1 → tz D (σ.set i (some v)) H1) : tSeq (tAsg te (gName i)) tz D σ H := h H (Ex.refl H) _ fun v H1 e hS => k v H1 e hS
theorem ap_x (h : EvX te σ H S) (hu : Up S) (hr : EvAP tr σ H R) : EvAP (tCons te tr) σ H fun vs G => ∃ v r, vs = v :: r ∧ S v G ∧ R r G := fun H1 e Q q =>
  h H1 e _ fun v H2 e2 hS => hr H2 (e.trans e2) _ fun vs H3 e3 hR => q (v :: vs) H3 (e2.trans e3) ⟨v, vs, rfl, hu _ _ _ e3 hS, hR⟩
theorem s_retAPL (h : EvAP t σ H R) (hl : ∀ vs G, R vs G → vs.length ≤ 100000) (k : ∀ p vs H1 H2, H p = none → Ex H H1 → R vs H1 → Ex H1 H2 → H2 p = some (.lst vs) → D.rt (.ref p) H2) : tRet (tLst t) D σ H := h H (Ex.refl H) _ fun vs H1 e hR => ⟨sz_of (hl vs H1 hR), fun p hp => k p vs H1 _ (fresh_back e hp) e hR (Ex.new hp) upd_same⟩
theorem ev_eqX {K : PySem.W.Frag} {b : Bool} (ha : EvX ta σ H S) (hu : Up S) (hb : EvX tb σ H S2) (h : ∀ x y G, Ex H G → S x G → S2 y G → ∃ a dx fs t, x = .ref a ∧ G a = some (.ins C dx fs) ∧ TyX K G y t ∧ PySem.W.notFirst K C t = true ∧ SpV sp [.ref a, y] G (.bl b)) : Ev (tOp (rEqO C sp E K) ta tb) σ H (.bl b) := fun H1 e Q q =>
  ha H1 e _ fun x H2 e2 hS => hb H2 (e.trans e2) _ fun y H3 e3 hS2 => by
    obtain ⟨a, dx, fs, t, rfl, h1, h2, h3, h4⟩ := h x y H3 ((e.trans e2).trans e3) (hu _ _ _ e3 hS) hS2
    exact ⟨a, dx, fs, t, rfl, h1, h2, h3, h4 H3 (Ex.refl _) _ (fun H4 e4 => ⟨⟨b, rfl⟩, q H4 ((e2.trans e3).trans e4)⟩) E⟩
theorem ev_eqDv {d d' : PyData} (h1 : EvD K ta σ H d) (h2 : EvD K tb σ H d') (hs : SeqAt.shaped d = true) (hs' : SeqAt.shaped d' = true) : Ev (tOp (rEqD K) ta tb) σ H (.bl (PyData.eqv d d')) := fun H1 e Q q => h1 H1 e _ fun v H2 e2 hv => h2 H2 (e.trans e2) _ fun u H3 e3 hu =>
  ⟨d, d', dp_ex e3 d v hv, hu, hs, hs', q H3 (e2.trans e3)⟩
theorem ev_neDv {d d' : PyData} (h1 : EvD K ta σ H d) (h2 : EvD K tb σ H d') (hs : SeqAt.shaped d = true) (hs' : SeqAt.shaped d' = true) : Ev (tOp (rNeD K) ta tb) σ H (.bl (!PyData.eqv d d')) := fun H1 e Q q => h1 H1 e _ fun v H2 e2 hv => h2 H2 (e.trans e2) _ fun u H3 e3 hu =>
  ⟨d, d', dp_ex e3 d v hv, hu, hs, hs', q H3 (e2.trans e3)⟩
end

/-! ### entries: names and values -/
abbrev En := List Int × List Int
def upI (p : Int) : Int := if 97 ≤ p ∧ p ≤ 122 then p - 32 else p
def upS (l : List Int) : List Int := l.map upI
def mt (n m : List Int) : Bool := decide (upS n = upS m)
theorem mt_of {n m x : List Int} (h : upS m = upS x) : mt n m = mt n x := by unfold mt; rw [h]
def hitE (nm : List Int) (es : List En) : List En := es.filter fun e => mt e.1 nm
def missE (nm : List Int) (es : List En) : List En := es.filter fun e => !mt e.1 nm
def valsO (es : List En) (nm : List Int) : List (List Int) := (hitE nm es).map (·.2)
def atO (nm : List Int) : List En → Option Nat
  | [] => none
  | e :: r => if mt e.1 nm = true then some 0 else (atO nm r).map (· + 1)
def insE (nm : List Int) (vs : List (List Int)) : List En := vs.map fun v => (nm, v)
def putE (k : List En) (a : Nat) (ins : List En) : List En := k.take a ++ ins ++ k.drop a
def withV (es : List En) (nm : List Int) (vs : List (List Int)) : List En := putE (missE nm es) ((atO nm es).getD (missE nm es).length) (insE nm vs)
theorem atO_snoc (nm : List Int) (e : En) : ∀ es : List En, atO nm (es ++ [e]) = match atO nm es with | some k => some k | none => if mt e.1 nm = true then some (missE nm es).length else none
  | [] => by
    show (if mt e.1 nm = true then some 0 else none) = _
    rfl
  | x :: r => by
    rw [List.cons_append]
    show (if mt x.1 nm = true then some 0 else (atO nm (r ++ [e])).map (· + 1)) = match (if mt x.1 nm = true then some 0 else (atO nm r).map (· + 1)) with | some k => some k | none => if mt e.1 nm = true then some (missE nm (x :: r)).length else none
    by_cases h : mt x.1 nm = true
    · rw [if_pos h, if_pos h]
    · rw [if_neg h, if_neg h, atO_snoc nm e r]
      cases ha : atO nm r with
      | some k => rfl
      | none =>
        show (if mt e.1 nm = true then some (missE nm r).length else none).map (· + 1) = if mt e.1 nm = true then some (missE nm (x :: r)).length else none
        have hl : (missE nm (x :: r)).length = (missE nm r).length + 1 := by
          unfold missE
          rw [List.filter_cons_of_pos (by simp [h])]
          rfl
        rw [hl]
        split <;> rfl
theorem atO_le {nm : List Int} : ∀ {es : List En} {k : Nat}, atO nm es = some k → k ≤ (missE nm es).length
  | [], k, h => by cases h
  | x :: r, k, h => by
    by_cases hx : mt x.1 nm = true
    · have : (if mt x.1 nm = true then some 0 else (atO nm r).map (· + 1)) = some k := h
      rw [if_pos hx] at this
      cases this
      exact Nat.zero_le _
    · have : (if mt x.1 nm = true then some 0 else (atO nm r).map (· + 1)) = some k := h
      rw [if_neg hx] at this
      obtain ⟨j, hj, rfl⟩ := Option.map_eq_some_iff.mp this
      have := atO_le hj
      have hl : (missE nm (x :: r)).length = (missE nm r).length + 1 := by
        unfold missE
        rw [List.filter_cons_of_pos (by simp [hx])]
        rfl
      omega
theorem missE_snoc (nm : List Int) (es : List En) (e : En) : missE nm (es ++ [e]) = if mt e.1 nm = true then missE nm es else missE nm es ++ [e] := by
  unfold missE
  rw [List.filter_append]
  by_cases h : mt e.1 nm = true
  · rw [if_pos h, List.filter_cons_of_neg (by simp [h]), List.filter_nil, List.append_nil]
  · rw [if_neg h, List.filter_cons_of_pos (by simp [h]), List.filter_nil]
theorem missE_none {nm : List Int} {es : List En} (h : ∀ e ∈ es, mt e.1 nm = true) : missE nm es = [] := List.filter_eq_nil_iff.mpr fun e he => by simp [h e he]
theorem missE_self (nm : List Int) (es : List En) : missE nm (missE nm es) = missE nm es := by
  unfold missE
  rw [List.filter_filter]
  simp
theorem insE_mt {nm x : List Int} {vs : List (List Int)} (h : upS x = upS nm) : ∀ e ∈ insE nm vs, mt e.1 x = true := fun e he => by
  obtain ⟨v, _, rfl⟩ := List.mem_map.mp he
  unfold mt
  rw [h, decide_eq_true rfl]
theorem missE_put (es : List En) (nm : List Int) (vs : List (List Int)) : missE nm (withV es nm vs) = missE nm es := by
  unfold withV putE
  generalize (atO nm es).getD (missE nm es).length = a
  have h1 : missE nm (insE nm vs) = [] := missE_none (insE_mt rfl)
  have h2 := missE_self nm es
  generalize missE nm es = k at *
  unfold missE at *
  rw [List.filter_append, List.filter_append, h1, List.append_nil, ← List.filter_append, List.take_append_drop, h2]
theorem hitE_miss {nm x : List Int} (h : upS x = upS nm) (es : List En) : hitE x (missE nm es) = [] := by
  unfold hitE missE
  rw [List.filter_filter]
  refine List.filter_eq_nil_iff.mpr fun e _ => ?_
  rw [mt_of h]
  simp
theorem valsO_with {nm x : List Int} (h : upS x = upS nm) (es : List En) (vs : List (List Int)) : valsO (withV es nm vs) x = vs := by
  unfold valsO withV putE
  generalize (atO nm es).getD (missE nm es).length = a
  have h1 := hitE_miss h es
  have h2 : hitE x (insE nm vs) = insE nm vs := List.filter_eq_self.mpr (insE_mt h)
  have ht : hitE x ((missE nm es).take a) = [] := List.filter_eq_nil_iff.mpr fun e he => List.filter_eq_nil_iff.mp h1 e (List.mem_of_mem_take he)
  have hd : hitE x ((missE nm es).drop a) = [] := List.filter_eq_nil_iff.mpr fun e he => List.filter_eq_nil_iff.mp h1 e (List.mem_of_mem_drop he)
  unfold hitE at *
  rw [List.filter_append, List.filter_append, ht, hd, h2, List.append_nil, List.nil_append]
  unfold insE
  rw [List.map_map]
  exact List.map_id _
theorem valsO_of {es : List En} {nm x : List Int} (h : upS x = upS nm) : valsO es x = valsO es nm := by
  unfold valsO hitE
  congr 1
  exact List.filter_congr fun e _ => mt_of h
/-! ### where entries stand -/
def EnsN (N : Addr → Prop) (H : Hp) (as : List Addr) (es : List En) : Prop := as.length = es.length ∧ ∀ (j : Nat) (a : Addr) (e : En), as[j]? = some a → es[j]? = some e → N a ∧ ∃ pn pv, H a = some (.tup [.ref pn, .ref pv]) ∧ N pn ∧ H pn = some (.lst (e.1.map V.int)) ∧ N pv ∧ H pv = some (.lst (e.2.map V.int))
def TxN (N : Addr → Prop) (H : Hp) (as : List Addr) (rs : List (List Int)) : Prop := as.length = rs.length ∧ ∀ (j : Nat) (a : Addr) (r : List Int), as[j]? = some a → rs[j]? = some r → N a ∧ H a = some (.lst (r.map V.int))
def Kp (N : Addr → Prop) (H H' : Hp) : Prop := ∀ b o, N b → H b = some o → H' b = some o
theorem Kp.ex {N : Addr → Prop} {H H' : Hp} (e : Ex H H') : Kp N H H' := fun b o _ h => e b o h
theorem Kp.trans {N : Addr → Prop} {H H1 H2 : Hp} (h : Kp N H H1) (g : Kp N H1 H2) : Kp N H H2 := fun b o n e => g b o n (h b o n e)
theorem Kp.mut {N : Addr → Prop} {H H1 : Hp} {p : Addr} {o : HO} (h : Kp N H H1) (hp : N p → H p = none) : Kp N H (upd H1 p o) := fun b u n e => by
  have : b ≠ p := by rintro rfl; rw [hp n] at e; cases e
  rw [upd_ne this]
  exact h b u n e
theorem Kp.fr {N : Addr → Prop} {s : Addr} {H H' : Hp} (f : Fr s H H') (hs : ¬ N s) : Kp N H H' := fun b o n e => f.1 b o (by rintro rfl; exact hs n) e
theorem EnsN.kp {N : Addr → Prop} {H H' : Hp} {as : List Addr} {es : List En} (h : EnsN N H as es) (k : Kp N H H') : EnsN N H' as es := ⟨h.1, fun j a e h1 h2 => by
  obtain ⟨n0, pn, pv, g1, n1, g2, n2, g3⟩ := h.2 j a e h1 h2
  exact ⟨n0, pn, pv, k _ _ n0 g1, n1, k _ _ n1 g2, n2, k _ _ n2 g3⟩⟩
theorem EnsN.ex {N : Addr → Prop} {H H' : Hp} {as : List Addr} {es : List En} (h : EnsN N H as es) (e : Ex H H') : EnsN N H' as es := h.kp (Kp.ex e)
theorem EnsN.imp {N M : Addr → Prop} {H : Hp} {as : List Addr} {es : List En} (h : EnsN N H as es) (i : ∀ b, H b ≠ none → N b → M b) : EnsN M H as es := ⟨h.1, fun j a e h1 h2 => by
  obtain ⟨n0, pn, pv, g1, n1, g2, n2, g3⟩ := h.2 j a e h1 h2
  exact ⟨i _ (by rw [g1]; exact fun z => nomatch z) n0, pn, pv, g1, i _ (by rw [g2]; exact fun z => nomatch z) n1, g2, i _ (by rw [g3]; exact fun z => nomatch z) n2, g3⟩⟩
theorem TxN.kp {N : Addr → Prop} {H H' : Hp} {as : List Addr} {rs : List (List Int)} (h : TxN N H as rs) (k : Kp N H H') : TxN N H' as rs := ⟨h.1, fun j a r h1 h2 => ⟨(h.2 j a r h1 h2).1, k _ _ (h.2 j a r h1 h2).1 (h.2 j a r h1 h2).2⟩⟩
theorem TxN.ex {N : Addr → Prop} {H H' : Hp} {as : List Addr} {rs : List (List Int)} (h : TxN N H as rs) (e : Ex H H') : TxN N H' as rs := h.kp (Kp.ex e)
theorem TxN.imp {N M : Addr → Prop} {H : Hp} {as : List Addr} {rs : List (List Int)} (h : TxN N H as rs) (i : ∀ b, H b ≠ none → N b → M b) : TxN M H as rs := ⟨h.1, fun j a r h1 h2 => ⟨i _ (by rw [(h.2 j a r h1 h2).2]; exact fun z => nomatch z) (h.2 j a r h1 h2).1, (h.2 j a r h1 h2).2⟩⟩
theorem EnsN.nil {N : Addr → Prop} {H : Hp} : EnsN N H [] [] := ⟨rfl, fun j a e h _ => by cases h⟩
theorem TxN.nil {N : Addr → Prop} {H : Hp} : TxN N H [] [] := ⟨rfl, fun j a e h _ => by cases h⟩
theorem snoc_at {α β : Type} {as : List α} {es : List β} (hl : as.length = es.length) {a b : α} {e u : β} {j : Nat} (h1 : (as ++ [a])[j]? = some b) (h2 : (es ++ [e])[j]? = some u) : (as[j]? = some b ∧ es[j]? = some u) ∨ (b = a ∧ u = e) := by
  by_cases hj : j < as.length
  · rw [List.getElem?_append_left hj] at h1
    rw [List.getElem?_append_left (by rw [← hl]; exact hj)] at h2
    exact .inl ⟨h1, h2⟩
  · rw [List.getElem?_append_right (by omega)] at h1
    rw [List.getElem?_append_right (by rw [← hl]; omega), ← hl] at h2
    have hj0 := (List.getElem?_eq_some_iff.mp h1).1
    have : j - as.length = 0 := by simp at hj0; omega
    rw [this] at h1 h2
    cases h1
    cases h2
    exact .inr ⟨rfl, rfl⟩
theorem EnsN.snoc {N : Addr → Prop} {H : Hp} {as : List Addr} {es : List En} {a pn pv : Addr} {e : En} (h : EnsN N H as es) (n0 : N a) (g : H a = some (.tup [.ref pn, .ref pv])) (n1 : N pn) (g1 : H pn = some (.lst (e.1.map V.int))) (n2 : N pv) (g2 : H pv = some (.lst (e.2.map V.int))) : EnsN N H (as ++ [a]) (es ++ [e]) := ⟨by rw [List.length_append, List.length_append, h.1]; rfl, fun j b u h1 h2 => by
  rcases snoc_at h.1 h1 h2 with ⟨h1, h2⟩ | ⟨rfl, rfl⟩
  · exact h.2 j b u h1 h2
  · exact ⟨n0, pn, pv, g, n1, g1, n2, g2⟩⟩
theorem TxN.snoc {N : Addr → Prop} {H : Hp} {as : List Addr} {rs : List (List Int)} {a : Addr} {r : List Int} (h : TxN N H as rs) (n0 : N a) (g : H a = some (.lst (r.map V.int))) : TxN N H (as ++ [a]) (rs ++ [r]) := ⟨by rw [List.length_append, List.length_append, h.1]; rfl, fun j b u h1 h2 => by
  rcases snoc_at h.1 h1 h2 with ⟨h1, h2⟩ | ⟨rfl, rfl⟩
  · exact h.2 j b u h1 h2
  · exact ⟨n0, g⟩⟩
theorem EnsN.app {N : Addr → Prop} {H : Hp} {as bs : List Addr} {es fs : List En} (h : EnsN N H as es) (g : EnsN N H bs fs) : EnsN N H (as ++ bs) (es ++ fs) := ⟨by rw [List.length_append, List.length_append, h.1, g.1], fun j b u h1 h2 => by
  by_cases hj : j < as.length
  · rw [List.getElem?_append_left hj] at h1
    rw [List.getElem?_append_left (by rw [← h.1]; exact hj)] at h2
    exact h.2 j b u h1 h2
  · rw [List.getElem?_append_right (by omega)] at h1
    rw [List.getElem?_append_right (by rw [← h.1]; omega), ← h.1] at h2
    exact g.2 _ b u h1 h2⟩
theorem EnsN.take {N : Addr → Prop} {H : Hp} {as : List Addr} {es : List En} (h : EnsN N H as es) (k : Nat) : EnsN N H (as.take k) (es.take k) := ⟨by rw [List.length_take, List.length_take, h.1], fun j b u h1 h2 => by
  rw [List.getElem?_take] at h1 h2
  split at h1
  · rename_i hk
    rw [if_pos hk] at h2
    exact h.2 j b u h1 h2
  · cases h1⟩
theorem EnsN.drop {N : Addr → Prop} {H : Hp} {as : List Addr} {es : List En} (h : EnsN N H as es) (k : Nat) : EnsN N H (as.drop k) (es.drop k) := ⟨by rw [List.length_drop, List.length_drop, h.1], fun j b u h1 h2 => by
  rw [List.getElem?_drop] at h1 h2
  exact h.2 _ b u h1 h2⟩
theorem EnsN.get {N : Addr → Prop} {H : Hp} {as : List Addr} {es : List En} (h : EnsN N H as es) {i : Nat} {x : V} (hx : (as.map V.ref)[i]? = some x) : ∃ a e, as[i]? = some a ∧ es[i]? = some e ∧ x = .ref a ∧ i < es.length ∧ N a ∧ ∃ pn pv, H a = some (.tup [.ref pn, .ref pv]) ∧ N pn ∧ H pn = some (.lst (e.1.map V.int)) ∧ N pv ∧ H pv = some (.lst (e.2.map V.int)) := by
  rw [List.getElem?_map] at hx
  obtain ⟨a, h1, rfl⟩ := Option.map_eq_some_iff.mp hx
  have hi := (List.getElem?_eq_some_iff.mp h1).1
  have h2 : es[i]? = some (es[i]'(by have := h.1; omega)) := List.getElem?_eq_getElem _
  exact ⟨a, _, h1, h2, rfl, by have := h.1; omega, h.2 i a _ h1 h2⟩
theorem TxN.get {N : Addr → Prop} {H : Hp} {as : List Addr} {rs : List (List Int)} (h : TxN N H as rs) {i : Nat} {x : V} (hx : (as.map V.ref)[i]? = some x) : ∃ a r, as[i]? = some a ∧ rs[i]? = some r ∧ x = .ref a ∧ i < rs.length ∧ N a ∧ H a = some (.lst (r.map V.int)) := by
  rw [List.getElem?_map] at hx
  obtain ⟨a, h1, rfl⟩ := Option.map_eq_some_iff.mp hx
  have hi := (List.getElem?_eq_some_iff.mp h1).1
  have h2 : rs[i]? = some (rs[i]'(by have := h.1; omega)) := List.getElem?_eq_getElem _
  exact ⟨a, _, h1, h2, rfl, by have := h.1; omega, h.2 i a _ h1 h2⟩
theorem take_at {α : Type} {l : List α} {i : Nat} {x : α} (h : l[i]? = some x) : l.take (i + 1) = l.take i ++ [x] := by rw [List.take_add_one, h]; rfl
/-! as data -/
def enD (es : List En) : PyData := .list (es.map fun e => PyData.tuple [.list (e.1.map PyData.int), .list (e.2.map PyData.int)])
def txD (rs : List (List Int)) : PyData := .list (rs.map fun r => PyData.list (r.map PyData.int))
theorem dp_ens {N : Addr → Prop} {H : Hp} : ∀ {as : List Addr} {es : List En}, EnsN N H as es → DpAll K H (as.map V.ref) (es.map fun e => PyData.tuple [.list (e.1.map PyData.int), .list (e.2.map PyData.int)])
  | [], [], _ => .nil
  | a :: as, e :: es, h => by
    obtain ⟨_, pn, pv, g, _, g1, _, g2⟩ := h.2 0 a e rfl rfl
    exact .cons (.tup (st_of g) (.cons (.lst (sq_of g1) (dp_ints _)) (.cons (.lst (sq_of g2) (dp_ints _)) .nil))) (dp_ens ⟨by have := h.1; simpa using this, fun j b q h1 h2 => h.2 (j + 1) b q h1 h2⟩)
  | [], _ :: _, h => by have := h.1; simp at this
  | _ :: _, [], h => by have := h.1; simp at this
theorem dp_txs {N : Addr → Prop} {H : Hp} : ∀ {as : List Addr} {rs : List (List Int)}, TxN N H as rs → DpAll K H (as.map V.ref) (rs.map fun r => PyData.list (r.map PyData.int))
  | [], [], _ => .nil
  | a :: as, r :: rs, h => .cons (.lst (sq_of (h.2 0 a r rfl rfl).2) (dp_ints _)) (dp_txs ⟨by have := h.1; simpa using this, fun j b q h1 h2 => h.2 (j + 1) b q h1 h2⟩)
  | [], _ :: _, h => by have := h.1; simp at this
  | _ :: _, [], h => by have := h.1; simp at this
theorem lay_en : ∀ es : List En, PyData.canLayAll0 (es.map fun e => PyData.tuple [.list (e.1.map PyData.int), .list (e.2.map PyData.int)]) = true ∧ PyData.depthAll (es.map fun e => PyData.tuple [.list (e.1.map PyData.int), .list (e.2.map PyData.int)]) ≤ 3
  | [] => ⟨rfl, by simp [PyData.depthAll]⟩
  | e :: es => by
    obtain ⟨h1, h2⟩ := lay_en es
    have a1 := canLay_ints e.1
    have a2 := depth_ints e.1
    have b1 := canLay_ints e.2
    have b2 := depth_ints e.2
    refine ⟨by simp only [List.map_cons, PyData.canLayAll0, PyData.canLay0, h1, a1, b1, Bool.and_self], ?_⟩
    simp only [List.map_cons, PyData.depthAll, PyData.depth]
    omega
theorem lay_tx : ∀ rs : List (List Int), PyData.canLayAll0 (rs.map fun r => PyData.list (r.map PyData.int)) = true ∧ PyData.depthAll (rs.map fun r => PyData.list (r.map PyData.int)) ≤ 2
  | [] => ⟨rfl, by simp [PyData.depthAll]⟩
  | r :: rs => by
    obtain ⟨h1, h2⟩ := lay_tx rs
    have h3 := canLay_ints r
    have h4 := depth_ints r
    refine ⟨by simp only [List.map_cons, PyData.canLayAll0, PyData.canLay0, h1, h3, Bool.and_self], ?_⟩
    simp only [List.map_cons, PyData.depthAll, PyData.depth]
    omega
theorem shaped_en (es : List En) : SeqAt.shaped (enD es) = true := by
  obtain ⟨h1, h2⟩ := lay_en es
  unfold SeqAt.shaped enD
  rw [Bool.and_eq_true, decide_eq_true_iff]
  refine ⟨by simp only [PyData.canLay0, h1], ?_⟩
  simp only [PyData.depth]
  omega
theorem shaped_tx (rs : List (List Int)) : SeqAt.shaped (txD rs) = true := by
  obtain ⟨h1, h2⟩ := lay_tx rs
  unfold SeqAt.shaped txD
  rw [Bool.and_eq_true, decide_eq_true_iff]
  refine ⟨by simp only [PyData.canLay0, h1], ?_⟩
  simp only [PyData.depth]
  omega
theorem ed_ens {N : Addr → Prop} {te : TE} {σ : L2.St} {H : Hp} {p : Addr} {as : List Addr} {es : List En} (h : Ev te σ H (.ref p)) (g : H p = some (.lst (as.map V.ref))) (hE : EnsN N H as es) : EvD K te σ H (enD es) := EvD.of h (.lst (sq_of g) (dp_ens hE))
theorem ed_txs {N : Addr → Prop} {te : TE} {σ : L2.St} {H : Hp} {p : Addr} {as : List Addr} {rs : List (List Int)} (h : Ev te σ H (.ref p)) (g : H p = some (.lst (as.map V.ref))) (hE : TxN N H as rs) : EvD K te σ H (txD rs) := EvD.of h (.lst (sq_of g) (dp_txs hE))
/-- a comprehension over a list, with tests, each item whatever its reading says -/
theorem tlc_lstF {t1 te : TE} {tt : TT} {g : TG} {vs : List Nat} {xs : List V} {σ : L2.St} {H : Hp} {Q : VK} (h : EvS K t1 σ H xs)
    (k : ∀ p H1, Ex H H1 → SqL K H1 p xs → ∀ Dl, H1 Dl = none → ∃ Pv : Nat → Hp → Prop, Pv 0 (upd H1 Dl (.lst [])) ∧ (∀ (i : Nat) H', Pv i H' → SqL K H' p xs) ∧ (∀ (i : Nat) (x : V) H', xs[i]? = some x → Pv i H' → g x (wipe σ vs) H' fun σ2 H2 => wipe σ2 vs = wipe σ vs ∧ tt σ2 H2 fun b H3 => if b = true then te σ2 H3 fun y H4 => ∃ acc, H4 Dl = some (.lst acc) ∧ acc.length < sizeLine ∧ Pv (i + 1) (upd H4 Dl (.lst (acc ++ [y]))) else Pv (i + 1) H3) ∧ (∀ H', Pv xs.length H' → Q (.ref Dl) H')) :
    tLc (iList K t1) g tt te vs σ H Q := h H (Ex.refl H) _ fun p H1 e1 hp => ⟨p, rfl, ⟨xs, hp⟩, fun Dl hD => by
  obtain ⟨Pv, h0, hl, hs, hd⟩ := k p H1 e1 hp Dl hD
  exact lc_list Pv h0 (fun i H' _ q => hl i H' q) (fun i x H' hi q => hs i x H' hi q) hd⟩
theorem tlc_lstG {t1 te : TE} {g : TG} {vs : List Nat} {xs : List V} {σ : L2.St} {H : Hp} {Q : VK} (h : EvS K t1 σ H xs)
    (k : ∀ p H1, Ex H H1 → SqL K H1 p xs → ∀ Dl, H1 Dl = none → ∃ Pv : Nat → Hp → Prop, Pv 0 (upd H1 Dl (.lst [])) ∧ (∀ (i : Nat) H', Pv i H' → SqL K H' p xs) ∧ (∀ (i : Nat) (x : V) H', xs[i]? = some x → Pv i H' → g x (wipe σ vs) H' fun σ2 H2 => wipe σ2 vs = wipe σ vs ∧ te σ2 H2 fun y H4 => ∃ acc, H4 Dl = some (.lst acc) ∧ acc.length < sizeLine ∧ Pv (i + 1) (upd H4 Dl (.lst (acc ++ [y])))) ∧ (∀ H', Pv xs.length H' → Q (.ref Dl) H')) :
    tLc (iList K t1) g tYes te vs σ H Q := tlc_lstF h k
theorem ne_known {H : Hp} {a b : Addr} (ha : H a = none) (hb : H b ≠ none) : a ≠ b := by rintro rfl; exact hb ha

theorem ex_go {te : TE} {σ : L2.St} {H : Hp} {S : V → Hp → Prop} {Q : VK} (h : EvX te σ H S) (k : ∀ v H2, Ex H H2 → S v H2 → Q v H2) : te σ H Q := h H (Ex.refl H) Q k
theorem ex_tupF {t : TA} {σ : L2.St} {H : Hp} {R : List V → Hp → Prop} (h : EvAP t σ H R) (hl : ∀ vs G, R vs G → vs.length ≤ 100000) : EvX (tTup t) σ H (fun v G => ∃ p vs G0, v = .ref p ∧ H p = none ∧ G p = some (.tup vs) ∧ Ex G0 G ∧ R vs G0) := fun H1 e Q q => h H1 e _ fun vs H2 e2 hR => ⟨sz_of (hl vs H2 hR), fun p hp => q (.ref p) _ (e2.trans (Ex.new hp)) ⟨p, vs, H2, rfl, fresh_back (e.trans e2) hp, upd_same, Ex.new hp, hR⟩⟩

/-! ### comments -/
def fsC (x0 x1 : V) : List (Str × V) := [("vendor", x0), ("entries", x1)]
def CmN (N : Addr → Prop) (C : Addr) (H : Hp) (c : Addr) (vd : List Int) (es : List En) : Prop := ∃ (dx pv pe : Addr) (as : List Addr), N c ∧ H c = some (.ins C dx (fsC (.ref pv) (.ref pe))) ∧ N pv ∧ H pv = some (.lst (vd.map V.int)) ∧ N pe ∧ H pe = some (.lst (as.map V.ref)) ∧ EnsN N H as es
theorem CmN.kp {N : Addr → Prop} {C : Addr} {H H' : Hp} {c : Addr} {vd : List Int} {es : List En} (h : CmN N C H c vd es) (k : Kp N H H') : CmN N C H' c vd es := by
  obtain ⟨dx, pv, pe, as, n0, g0, n1, g1, n2, g2, hE⟩ := h
  exact ⟨dx, pv, pe, as, n0, k _ _ n0 g0, n1, k _ _ n1 g1, n2, k _ _ n2 g2, hE.kp k⟩
theorem CmN.ex {N : Addr → Prop} {C : Addr} {H H' : Hp} {c : Addr} {vd : List Int} {es : List En} (h : CmN N C H c vd es) (e : Ex H H') : CmN N C H' c vd es := h.kp (Kp.ex e)
theorem CmN.imp {N M : Addr → Prop} {C : Addr} {H : Hp} {c : Addr} {vd : List Int} {es : List En} (h : CmN N C H c vd es) (i : ∀ b, H b ≠ none → N b → M b) : CmN M C H c vd es := by
  obtain ⟨dx, pv, pe, as, n0, g0, n1, g1, n2, g2, hE⟩ := h
  exact ⟨dx, pv, pe, as, i _ (by rw [g0]; exact fun z => nomatch z) n0, g0, i _ (by rw [g1]; exact fun z => nomatch z) n1, g1, i _ (by rw [g2]; exact fun z => nomatch z) n2, g2, hE.imp i⟩
theorem EnsN.fro {H H' : Hp} {a C dx : Addr} {fs : List (Str × V)} {as : List Addr} {es : List En} (h : EnsN (fun _ => True) H as es) (ha : H a = some (.ins C dx fs)) (f : FrO a H H') : EnsN (fun _ => True) H' as es := ⟨h.1, fun j b e h1 h2 => by
  obtain ⟨n0, pn, pv, g1, n1, g2, n2, g3⟩ := h.2 j b e h1 h2
  exact ⟨n0, pn, pv, f _ _ (by rintro rfl; rw [ha] at g1; cases g1) g1, n1, f _ _ (by rintro rfl; rw [ha] at g2; cases g2) g2, n2, f _ _ (by rintro rfl; rw [ha] at g3; cases g3) g3⟩⟩
theorem s_fldX {σ : L2.St} {H : Hp} {to tv : TE} {a C dx : Addr} {fs : List (Str × V)} {f : Str} {D : Ends} {S : V → Hp → Prop} (c : Cls K C) (hn : NoAttr K C f) (hv : EvX tv σ H S) (hu : Up S) (h : ∀ H1, Ex H H1 → Ev to σ H1 (.ref a)) (hx : H a = some (.ins C dx fs)) (hl : fs.length < 1000)
    (k : ∀ v H1, Ex H H1 → S v H1 → D.nx σ (upd H1 a (.ins C dx (putF f v fs)))) : sFld K to tv f D σ H :=
  hv H (Ex.refl H) _ fun v H1 e1 hS => h H1 e1 H1 (Ex.refl H1) _ fun H2 e2 => ⟨a, C, dx, fs, rfl, (e1.trans e2) _ _ hx, c, hn, hl, k v H2 (e1.trans e2) (hu _ _ _ e2 hS)⟩
def sp_cinit (C : Addr) : Sp := fun vs H Q _ => ∃ (a dx v l : Addr) (as : List Addr) (vd : List Int) (es : List En), vs = [.ref a, .ref v, .ref l] ∧ H a = some (.ins C dx []) ∧ H v = some (.lst (vd.map V.int)) ∧ H l = some (.lst (as.map V.ref)) ∧ EnsN (fun _ => True) H as es ∧ es.length ≤ 1000 ∧
  ∀ H', FrO a H H' → (∃ (pv pe : Addr) (as' : List Addr), H' a = some (.ins C dx (fsC (.ref pv) (.ref pe))) ∧ H pv = none ∧ H' pv = some (.lst (vd.map V.int)) ∧ H pe = none ∧ H' pe = some (.lst (as'.map V.ref)) ∧ EnsN (fun b => H b = none) H' as' es) → Q .non H'
theorem ok_Comments_init (T : TX K mg) : FnOk P w K mg base CX0 1 T.a_Comments_init T.d_Comments_init ["self", "vendor", "entries"] (sp_cinit T.C_Comments) := by
  refine T.F_Comments_init.ok sc_Comments_init (fun vs H Q E h => by obtain ⟨a, dx, v, l, as, vd, es, rfl, _⟩ := h; rfl) (fun cdv A outer s H vs Q E hr h => ?_)
  obtain ⟨a, dx, v, l, as, vd, es, rfl, ha, gv, gl, hE, hel, k⟩ := h
  refine ⟨_, (pss_cons (ps_fld (pv 0) (pe_callTy (r := rListS K) call_list_of (by rfl) T.m_list PyProof.Rows.boot_list (pa_cons (pv 1) pa_nil)) rfl)
      (pss_one (ps_fld (pv 0) (pe_lc (own := [("name", 3), ("value", 4)]) (g := (gTup K 2 (gCons (gName 3) (gCons (gName 4) gNil)))) (tt := tYes) rfl sc_Comments_init.nd (pi_list (pv 2)) (blkOk_by (N := ["self", "vendor", "entries", "name", "value"]) (sc := defScope s_Comments_init) (by decide +kernel)) (fun _ _ _ _ _ => (pg_tup rfl (pgs_cons (pg_name (i := 3) sc_Comments_init.nd rfl (Or.inl rfl)) (pgs_cons (pg_name (i := 4) sc_Comments_init.nd rfl (Or.inl rfl)) pgs_nil)))) (fun _ _ _ _ _ => pts_nil) (fun _ _ _ _ _ => (pe_tup (pa_cons (pe_callTy (r := rListS K) call_list_of (by rfl) T.m_list PyProof.Rows.boot_list (pa_cons (pv 3) pa_nil)) (pa_cons (pe_callTy (r := rListS K) call_list_of (by rfl) T.m_list PyProof.Rows.boot_list (pa_cons (pv 4) pa_nil)) pa_nil))))) rfl))), ?_⟩
  refine q_fldL T.cl_Comments T.n_Comments_vendor (el_of (K := K) (Ev.s (ev_var rfl) (sq_of gv))) (fun _ _ => ev_var rfl) ha (by decide) fun pv H1 hpv e1 g1 => ?_
  have hpva : pv ≠ a := by rintro rfl; rw [ha] at hpv; cases hpv
  have f1 : FrO a H (upd H1 a (.ins T.C_Comments dx (putF "vendor" (.ref pv) []))) := (FrO.ex e1).upd
  have ga : upd H1 a (.ins T.C_Comments dx (putF "vendor" (.ref pv) [])) a = some (.ins T.C_Comments dx (putF "vendor" (.ref pv) [])) := upd_same
  have gpv : upd H1 a (.ins T.C_Comments dx (putF "vendor" (.ref pv) [])) pv = some (.lst (vd.map V.int)) := by rw [upd_ne hpva]; exact g1
  generalize upd H1 a (.ins T.C_Comments dx (putF "vendor" (.ref pv) [])) = H2 at *
  have gl2 := f1 _ _ (by rintro rfl; rw [ha] at gl; cases gl) gl
  have hE2 := hE.fro ha f1
  have back : ∀ b, H2 b = none → H b = none := fun b hb => by
    cases h : H b with
    | none => rfl
    | some o =>
      by_cases hba : b = a
      · rw [hba, ga] at hb; cases hb
      · rw [f1 b o hba h] at hb; cases hb
  refine s_fldX (S := fun v G => ∃ (p : Addr) (as' : List Addr), v = .ref p ∧ H2 p = none ∧ G p = some (.lst (as'.map V.ref)) ∧ EnsN (fun b => H2 b = none) G as' es) T.cl_Comments T.n_Comments_entries (fun G0 eG0 Q0 q0 => ?_) (fun v G G' e ⟨p, as', h1, h2, h3, h4⟩ => ⟨p, as', h1, h2, e _ _ h3, h4.ex e⟩) (fun _ _ => ev_var rfl) ga (Nat.le_of_ble_eq_true rfl) fun v H3 e3 hS => ?_
  · refine tlc_lstG (K := K) (Ev.s (ev_var rfl) (sq_of (eG0 _ _ gl2))) fun p1 H3 e3 hp1 Dl hDl => ⟨fun i H' => ∃ as', Ex H3 H' ∧ H' Dl = some (.lst (as'.map V.ref)) ∧ EnsN (fun b => H3 b = none ∧ b ≠ Dl) H' as' (es.take i), ⟨[], Ex.new hDl, upd_same, EnsN.nil⟩, fun i H' h => by obtain ⟨_, ex, _⟩ := h; exact ex_l ex hp1, fun i x H' hx h => ?_, fun H' h => ?_⟩
    · obtain ⟨as', ex, gD, hEp⟩ := h
      obtain ⟨ai, e, hai, hei, rfl, hi, _, pn, pw, g0, _, g1', _, g2'⟩ := (hE2.ex (eG0.trans (e3.trans ex))).get hx
      refine ⟨ai, [.ref pn, .ref pw], rfl, st_of g0, rfl, _, _, rfl, _, _, rfl, rfl, rfl, ?_⟩
      refine ex_go (te := tTup (tCons (tCB (rListS K) (tCons (tVar 3) tNil)) (tCons (tCB (rListS K) (tCons (tVar 4) tNil)) tNil))) (σ := [some (.ref a), some (.ref v), some (.ref l), some (.ref pn), some (.ref pw)]) (H := H') (ex_tupF (ap_l (el_of (K := K) (Ev.s (ev_var rfl) (sq_of g1'))) (ap_l (el_of (K := K) (Ev.s (ev_var rfl) (sq_of g2'))) ap_nil)) (fun vs G hR => by obtain ⟨_, _, rfl, _, _, _, _, rfl, _, _, rfl⟩ := hR; exact Nat.le_of_ble_eq_true rfl)) fun v H5 e5 hv => ?_
      obtain ⟨pt, vs, G5, rfl, hpt, gpt, eG5, q1, _, rfl, hq1, gq1, q2, _, rfl, hq2, gq2, rfl⟩ := hv
      have neD : ∀ {b : Addr}, H' b = none → b ≠ Dl := fun hb => ne_known hb (by rw [gD]; exact fun z => nomatch z)
      have kp : Kp (fun b => H3 b = none ∧ b ≠ Dl) H' (upd H5 Dl (.lst (as'.map V.ref ++ [.ref pt]))) := (Kp.ex e5).mut fun h => absurd rfl h.2
      refine ⟨_, e5 _ _ gD, sz_lt (by rw [List.length_map, hEp.1, List.length_take]; omega), as' ++ [pt], Ex.mut (ex.trans e5) hDl, by rw [upd_same, List.map_append]; rfl, ?_⟩
      rw [take_at hei]
      exact (hEp.kp kp).snoc ⟨fresh_back ex hpt, neD hpt⟩ (by rw [upd_ne (neD hpt)]; exact gpt) ⟨fresh_back ex hq1, neD hq1⟩ (by rw [upd_ne (neD hq1)]; exact eG5 _ _ gq1) ⟨fresh_back ex hq2, neD hq2⟩ (by rw [upd_ne (neD hq2)]; exact eG5 _ _ gq2)
    · obtain ⟨as', ex, gD, hEp⟩ := h
      rw [List.length_map, hE.1, List.take_length] at hEp
      exact q0 _ _ (e3.trans ex) ⟨Dl, as', rfl, fresh_back (eG0.trans e3) hDl, gD, hEp.imp fun b _ h => fresh_back (eG0.trans e3) h.1⟩
  · obtain ⟨pe, as', rfl, hpe, gpe, hE'⟩ := hS
    have hpea : pe ≠ a := ne_known hpe (by rw [ga]; exact fun z => nomatch z)
    have kp : Kp (fun b => H2 b = none) H3 (upd H3 a (.ins T.C_Comments dx (putF "entries" (.ref pe) (putF "vendor" (.ref pv) [])))) := fun b o n g => by
      rw [upd_ne (ne_known n (by rw [ga]; exact fun z => nomatch z))]
      exact g
    refine k _ ((f1.trans (FrO.ex e3)).upd) ⟨pv, pe, as', upd_same, hpv, ?_, back _ hpe, ?_, (hE'.kp kp).imp fun b _ h => back b h⟩
    · rw [upd_ne hpva]
      exact e3 _ _ gpv
    · rw [upd_ne hpea]
      exact gpe
theorem en_makeAPF {t : TA} {σ : L2.St} {H : Hp} {R : List V → Hp → Prop} {C : Addr} {sp : Sp} {dvs : List V} {E : XK} {S : Addr → Hp → Prop} (h : EvAP t σ H R) (k : ∀ vs a dx H1 (Q : VK) (E : XK), Ex H H1 → H a = none → (∃ G, Ex G H1 ∧ R vs G) → H1 a = some (.ins C dx []) → (∀ H', FrO a H1 H' → S a H' → Q .non H') → sp (.ref a :: (vs ++ dvs)) H1 Q E) : EvN (tMake C sp dvs E t) σ H S := fun H1 e Q q =>
  h H1 e _ fun vs H2 e2 hR => fun x dx hx hdx hne => k vs x dx _ _ _ ((e.trans e2).trans (Ex.mut (Ex.new hdx) hx)) (fresh_back (e.trans e2) hx) ⟨H2, Ex.mut (Ex.new hdx) hx, hR⟩ upd_same fun H' hF hS => ⟨rfl, q x H' (fresh_back e2 hx) (fun b o hb => hF b o (fresh_ne hx (e2 b o hb)) ((Ex.mut (Ex.new hdx) hx) b o (e2 b o hb))) hS⟩
def EsAt (es : List En) : V → Hp → Prop := fun v G => ∃ (l : Addr) (as : List Addr), v = .ref l ∧ G l = some (.lst (as.map V.ref)) ∧ EnsN (fun _ => True) G as es
theorem EsAt.up (es : List En) : Up (EsAt es) := fun v G G' e ⟨l, as, h1, h2, h3⟩ => ⟨l, as, h1, e _ _ h2, h3.ex e⟩
theorem en_cm (T : TX K mg) {σ : L2.St} {H : Hp} {t1 t2 : TE} {E : XK} {v : Addr} {vd : List Int} {es : List En} (h1 : Ev t1 σ H (.ref v)) (gv : H v = some (.lst (vd.map V.int))) (h2 : EvX t2 σ H (EsAt es)) (hl : es.length ≤ 1000) : EvN (tMake T.C_Comments (sp_cinit T.C_Comments) [] E (tCons t1 (tCons t2 tNil))) σ H (fun c G => CmN (fun b => H b = none) T.C_Comments G c vd es) :=
  en_makeAPF (ap_ev h1 (ap_x h2 (EsAt.up es) ap_nil)) fun vs a dx H1 Q E eH ha0 hG ha kk => by
    obtain ⟨G, eG, r1, rfl, v2, r2, rfl, hS, rfl⟩ := hG
    obtain ⟨l, as, rfl, gl, hE⟩ := EsAt.up es _ _ _ eG hS
    exact ⟨a, dx, v, l, as, vd, es, rfl, ha, eH _ _ gv, gl, hE, hl, fun H' hF ⟨pv, pe, as', g0, n1, g1, n2, g2, hE'⟩ => kk H' hF ⟨dx, pv, pe, as', ha0, g0, fresh_back eH n1, g1, fresh_back eH n2, g2, hE'.imp fun b _ h => fresh_back eH h⟩⟩
theorem cm_get {C : Addr} {H : Hp} {c : Addr} {vd : List Int} {es : List En} {N : Addr → Prop} (h : CmN N C H c vd es) : ∃ (dx pv pe : Addr) (as : List Addr), H c = some (.ins C dx (fsC (.ref pv) (.ref pe))) ∧ H pv = some (.lst (vd.map V.int)) ∧ H pe = some (.lst (as.map V.ref)) ∧ EnsN (fun _ => True) H as es := by
  obtain ⟨dx, pv, pe, as, _, g0, _, g1, _, g2, hE⟩ := h
  exact ⟨dx, pv, pe, as, g0, g1, g2, hE.imp fun _ _ _ => trivial⟩

def lowB (n : Int) (c : Nat) : List Int := (List.range c).map fun i => n / 2 ^ (8 * i) % 256
theorem lowB_len (n : Int) (c : Nat) : (lowB n c).length = c := by unfold lowB; rw [List.length_map, List.length_range]
/-! ### numbers of whole bytes, the least significant first -/
theorem q_forRv {te : TE} {tu tz : TS} {D : Ends} {σ : L2.St} {H : Hp} {xs : List V} {j : Nat} (h : EvL te σ H xs) (Pv : Addr → Nat → L2.St → Hp → Prop) (h0 : ∀ p H1, H p = none → Ex H H1 → H1 p = some (.lst xs) → Pv p 0 σ H1) (hq : ∀ p i σ H, i ≤ xs.length → Pv p i σ H → SqL K H p xs)
    (hs : ∀ p i x σ H, i < xs.length → xs[xs.length - 1 - i]? = some x → Pv p i σ H → tu { D with nx := Pv p (i + 1), ct := Pv p (i + 1), bk := tz D } (σ.set j (some x)) H) (hd : ∀ p σ H, Pv p xs.length σ H → tz D σ H) : tSeq (tFor (iRev K (tCons te tNil)) (gName j) tu) tz D σ H :=
  h H (Ex.refl H) _ fun p H1 hp e1 g1 => ⟨p, xs, rfl, sq_of g1, for_it (D := { D with nx := tz D }) walk_rev (Pv p) (h0 p H1 hp e1 g1) (fun i σ H hi pv => hq p i σ H hi pv) (fun i x σ H H' hi pv y => by
    obtain ⟨rfl, y⟩ := y
    exact hs p i x σ _ hi y pv) (hd p)⟩
def sp_lowl : Sp := fun vs H Q _ => ∃ (n : Int) (c : Nat), vs = [.int n, .int (c : Int)] ∧ c ≤ 1000 ∧ RetL ((lowB n c).map V.int) H Q
theorem ok_little_bytes (T : TX K mg) : FnOk P w K mg base CX0 1 T.a_little_bytes T.d_little_bytes ["number", "count"] sp_lowl := by
  refine T.F_little_bytes.ok sc_little_bytes (fun vs H Q E h => by obtain ⟨n, c, rfl, _⟩ := h; rfl) (fun cdv A outer s H vs Q E hr h => ?_)
  obtain ⟨n, c, rfl, hc, k⟩ := h
  refine ⟨_, (pss_one (ps_ret (pe_lc (own := [("shift", 2)]) (g := gName 2) (tt := tYes) rfl sc_little_bytes.nd (pi_range3 (by rfl) T.m_range (pa_cons pe_int (pa_cons (pe_op op_mul pe_int (pv 1)) (pa_cons pe_int pa_nil)))) (blkOk_by (N := ["number", "count", "shift"]) (sc := defScope s_little_bytes) (by decide +kernel)) (fun _ _ _ _ _ => pg_name (i := 2) sc_little_bytes.nd rfl (Or.inl rfl)) (fun _ _ _ _ _ => pts_nil) (fun _ _ _ _ _ => (pe_op op_and (pe_op op_shr (pv 0) (pv 2)) pe_int))))), ?_⟩
  refine s_retL (xs := (lowB n c).map V.int) (el_lcC (n := c) _ (ea_cons ev_c (ea_cons (Ev.is (ev_I ev_c (ev_var rfl) (.inl (by decide))) (congrArg V.int (a₂ := ((8 * c : Nat) : Int)) (by omega))) (ea_cons ev_c ea_nil))) (rg8 (by omega)) (by rw [List.length_map, lowB_len]) (by rw [List.length_map, lowB_len]; omega) (fun _ => rfl) fun i H1 e1 hi => ?_) k
  refine ⟨_, at_int (n := n / 2 ^ (8 * i) % 256) (by unfold lowB; rw [List.getElem?_map, List.getElem?_range hi]; rfl), Ev.is (ev_I0 (ev_I (j := ((8 * i : Nat) : Int)) (ev_var rfl) (Ev.is (ev_var rfl) (congrArg V.int (by omega))) (by show (0 : Int) ≤ _; omega)) ev_c) (congrArg V.int ?_)⟩
  rw [Int.toNat_natCast]
  exact bitAnd_maskZ _ 8
theorem el_lb {σ : L2.St} {H : Hp} {t1 t2 : TE} {E : XK} {n : Int} {c : Nat} (h1 : Ev t1 σ H (.int n)) (h2 : Ev t2 σ H (.int (c : Int))) (hc : c ≤ 1000) : EvL (tCall sp_lowl [] E (tCons t1 (tCons t2 tNil))) σ H ((lowB n c).map V.int) := el_call (ea_cons h1 (ea_cons h2 ea_nil)) fun G e Q2 q2 _ => ⟨n, c, rfl, hc, q2⟩
/-- a number of so many bytes stands at a place -/
def HasN (ds : List Int) (pos m x : Nat) : Prop := ∀ j, j < m → ds[pos + j]? = some ((x / 2 ^ (8 * j) % 256 : Nat) : Int)
theorem HasN.cut {ds : List Int} {pos m x : Nat} (h : HasN ds pos m x) : (ds.drop pos).take m = (List.range m).map fun j => ((x / 2 ^ (8 * j) % 256 : Nat) : Int) := by
  refine List.ext_getElem? fun j => ?_
  rw [List.getElem?_take, List.getElem?_map]
  by_cases hj : j < m
  · rw [if_pos hj, List.getElem?_drop, h j hj, List.getElem?_range hj]
    rfl
  · rw [if_neg hj, List.getElem?_eq_none (by rw [List.length_range]; omega)]
    rfl
theorem low_nat (v : Int) (m j : Nat) (hj : j < m) : v / 2 ^ (8 * j) % 256 = (((v % 2 ^ (8 * m)).toNat / 2 ^ (8 * j) % 256 : Nat) : Int) := by
  obtain ⟨c, hc⟩ : ∃ c : Int, 2 ^ (8 * j) = c := ⟨_, rfl⟩
  obtain ⟨b, hb⟩ : ∃ b : Int, 2 ^ (8 * (m - 1 - j)) = b := ⟨_, rfl⟩
  have hc0 : 0 < c := by rw [← hc]; exact Int.pow_pos (by decide)
  have hb0 : 0 < b := by rw [← hb]; exact Int.pow_pos (by decide)
  have hM : (2 : Int) ^ (8 * m) = c * (256 * b) := by rw [← hc, ← hb, show 8 * m = 8 * j + (8 + 8 * (m - 1 - j)) by omega, Int.pow_add, Int.pow_add]; rfl
  have h0 := Int.emod_nonneg v (show (2 : Int) ^ (8 * m) ≠ 0 by have := Int.pow_pos (n := 2) (m := 8 * m) (by decide); omega)
  rw [Int.natCast_emod, Int.natCast_ediv, Int.toNat_of_nonneg h0, Int.natCast_pow, hM]
  show v / 2 ^ (8 * j) % 256 = v % (c * (256 * b)) / 2 ^ (8 * j) % 256
  rw [hc]
  have e := Int.emod_add_mul_ediv v (c * (256 * b))
  generalize v / (c * (256 * b)) = q at *
  generalize v % (c * (256 * b)) = r at *
  rw [← e, Int.mul_assoc, Int.add_mul_ediv_left _ _ (show c ≠ 0 by omega), Int.mul_assoc, Int.add_mul_emod_self_left]
theorem HasN.of {ds : List Int} {pos m : Nat} {v : Int} {r : List Int} (h : ds.drop pos = lowB v m ++ r) : HasN ds pos m (v % 2 ^ (8 * m)).toNat := fun j hj => by
  rw [← List.getElem?_drop, h, List.getElem?_append_left (by rw [lowB_len]; exact hj)]
  unfold lowB
  rw [List.getElem?_map, List.getElem?_range hj]
  exact congrArg some (low_nat v m j hj)
theorem HasN.ofN {ds : List Int} {pos m x : Nat} {r : List Int} (h : ds.drop pos = lowB (x : Int) m ++ r) (hx : x < 2 ^ (8 * m)) : HasN ds pos m x := by
  have := HasN.of h
  have e : ((x : Int) % 2 ^ (8 * m)).toNat = x := by
    have h2 : ((2 : Int) ^ (8 * m)) = ((2 ^ (8 * m) : Nat) : Int) := by rw [Int.natCast_pow]; rfl
    rw [h2, ← Int.natCast_emod, Int.toNat_natCast, Nat.mod_eq_of_lt hx]
  rwa [e] at this
theorem or_join8 (a d : Nat) (h : d < 256) : Builtin.bitOr ((a : Int) * 2 ^ (8 : Int).toNat) (d : Int) = ((a * 256 + d : Nat) : Int) := by
  have h1 := _root_.Bits.bitOr_join' (a := (d : Int)) (b := (a : Int)) (k := 8) (by omega) (by show _ < ((2 : Int) ^ 8); have e : ((2 : Int) ^ 8) = 256 := rfl; omega) (by omega)
  have e : (8 : Int).toNat = 8 := rfl
  rw [e, h1]
  have e2 : ((2 : Int) ^ 8) = 256 := rfl
  omega
def sp_lnum (K : PySem.W.Frag) : Sp := fun vs H Q _ => ∃ (p : Addr) (ds : List Int) (pos m x : Nat), vs = [.ref p, .int (pos : Int), .int (m : Int)] ∧ SqL K H p (ds.map V.int) ∧ m ≤ 4 ∧ HasN ds pos m x ∧ x < 2 ^ (8 * m) ∧ RetV (.int (x : Int)) H Q
theorem ok_little_number (T : TX K mg) : FnOk P w K mg base CX0 1 T.a_little_number T.d_little_number ["data", "place", "count"] (sp_lnum K) := by
  refine T.F_little_number.ok sc_little_number (fun vs H Q E h => by obtain ⟨p, ds, pos, m, x, rfl, _⟩ := h; rfl) (fun cdv A outer s H vs Q E hr h => ?_)
  obtain ⟨p, ds, pos, m, x, rfl, hS, hm, hN, hx, k⟩ := h
  refine ⟨_, (pss_cons (ps_set (i := 3) sc_little_number.nd rfl (Or.inl rfl) pe_int)
      (pss_cons (ps_for PassesOwn.never rfl (pi_reversed (by rfl) T.m_reversed (pa_cons (pe_slice (r := rSlL K) sl_list (pv 0) (po_some (pv 1)) (po_some (pe_op op_add (pv 1) (pv 2)))) pa_nil)) (pg_name (i := 4) sc_little_number.nd rfl (Or.inl rfl)) (pss_one (ps_set (i := 3) sc_little_number.nd rfl (Or.inl rfl) (pe_op op_or (pe_op op_shl (pv 3) pe_int) (pv 4)))))
      (pss_one (ps_ret (pv 3))))), ?_⟩
  have hx32 : x < 2 ^ 32 := Nat.lt_of_lt_of_le hx (Nat.pow_le_pow_right (by decide) (by omega))
  have e32 : (2 : Nat) ^ 32 = 4294967296 := rfl
  refine q_asg (v := .int 0) ev_c fun H1 e1 => ?_
  refine q_forRv (xs := ((List.range m).map fun j => ((x / 2 ^ (8 * j) % 256 : Nat) : Int)).map V.int) (EvL.is (el_mid (i := pos) (j := pos + m) (Ev.s (ev_var rfl) (ex_l e1 hS)) (ev_var rfl) (Ev.is (ev_I0 (ev_var rfl) (ev_var rfl)) (congrArg V.int (by omega)))) (by rw [Nat.add_sub_cancel_left, hN.cut])) (fun q i σ' H' => ∃ z : Option V, σ' = [some (.ref p), some (.int (pos : Int)), some (.int (m : Int)), some (.int ((x / 2 ^ (8 * (m - i)) : Nat) : Int)), z] ∧ Ex H H' ∧ H' q = some (.lst (((List.range m).map fun j => ((x / 2 ^ (8 * j) % 256 : Nat) : Int)).map V.int))) (fun q H2 hq e2 g2 => ⟨none, by rw [Nat.sub_zero, Nat.div_eq_of_lt hx]; rfl, e1.trans e2, g2⟩) (fun q i σ' H' _ h => by obtain ⟨_, _, _, g⟩ := h; exact sq_of g) ?_ ?_
  · rintro q i v σ' H2 hi hv ⟨z, rfl, ex, gq⟩
    rw [List.length_map, List.length_map, List.length_range] at hi hv
    rw [List.getElem?_map, List.getElem?_map, List.getElem?_range (by omega)] at hv
    have hv : V.int ((x / 2 ^ (8 * (m - 1 - i)) % 256 : Nat) : Int) = v := Option.some.inj hv
    subst hv
    obtain ⟨kk, hkk⟩ : ∃ kk, m - 1 - i = kk := ⟨_, rfl⟩
    rw [hkk, show m - i = kk + 1 by omega, show m - (i + 1) = kk by omega]
    have hdiv : x / 2 ^ (8 * (kk + 1)) = x / 2 ^ (8 * kk) / 256 := by
      rw [Nat.div_div_eq_div_mul, show 8 * (kk + 1) = 8 * kk + 8 by omega, Nat.pow_add]
    have hyx : x / 2 ^ (8 * kk) ≤ x := Nat.div_le_self ..
    rw [hdiv]
    generalize x / 2 ^ (8 * kk) = y at *
    refine s_asg (v := .int (y : Int)) (Ev.is (ev_I0 (ev_I (ev_var rfl) ev_c (show CPow ((y / 256 : Nat) : Int) 8 from ⟨by decide, by decide, by omega⟩)) (ev_var rfl)) (congrArg V.int ?_)) fun H3 e3 => ⟨_, rfl, ex.trans e3, e3 _ _ gq⟩
    rw [or_join8 _ _ (Nat.mod_lt _ (by decide))]
    omega
  · rintro q σ' H2 ⟨z, rfl, ex, gq⟩
    refine s_ret (v := .int (x : Int)) (Ev.is (ev_var rfl) (congrArg V.int ?_)) fun H3 e3 => k.go (ex.trans e3)
    rw [List.length_map, List.length_map, List.length_range, Nat.sub_self, Nat.mul_zero, Nat.pow_zero, Nat.div_one]
theorem ev_lnum {σ : L2.St} {H : Hp} {t1 t2 t3 : TE} {E : XK} {ds : List Int} {pos m x : Nat} (h1 : EvS K t1 σ H (ds.map V.int)) (h2 : Ev t2 σ H (.int (pos : Int))) (h3 : Ev t3 σ H (.int (m : Int))) (hm : m ≤ 4) (hN : HasN ds pos m x) (hx : x < 2 ^ (8 * m)) : Ev (tCall (sp_lnum K) [] E (tCons t1 (tCons t2 (tCons t3 tNil)))) σ H (.int (x : Int)) := fun H1 e Q q =>
  h1 H1 e _ fun p H2 e2 hp => h2 H2 (e.trans e2) _ fun H3 e3 => h3 H3 ((e.trans e2).trans e3) _ fun H4 e4 => ⟨p, ds, pos, m, x, rfl, ex_l (e3.trans e4) hp, hm, hN, hx, fun H5 e5 => q H5 (((e2.trans e3).trans e4).trans e5)⟩
theorem drop_step {ds a r : List Int} {p : Nat} (h : ds.drop p = a ++ r) : ds.drop (p + a.length) = r := by
  rw [← List.drop_drop, h, List.drop_left]
theorem low_step {ds r : List Int} {p c x : Nat} (h : ds.drop p = lowB (x : Int) c ++ r) (hx : x < 2 ^ (8 * c)) : HasN ds p c x ∧ ds.drop (p + c) = r := ⟨HasN.ofN h hx, by have := drop_step h; rwa [lowB_len] at this⟩

/-! ### draws, values told -/
theorem wi_ixV {s l : Addr} {σ : L2.St} {H : Hp} {ta tb : TE} {xs : List Int} {q : Int → Prop} (st : StAt H s) (ha : Ev ta σ H (.ref l)) (hls : l ≠ s) (hx : H l = some (.lst (xs.map V.int))) (hb : ∀ H1, Fr s H H1 → EvI s tb σ H1 q) (hq : ∀ z, q z → ∃ j : Nat, z = (j : Int) ∧ j < xs.length) : EvI s (tOp (rIxL K) ta tb) σ H (fun _ => True) := fun Q k =>
  ha H (Ex.refl H) _ fun H1 e1 => hb H1 (Fr.ex st e1) _ fun i H2 f2 hi => by
    obtain ⟨j, rfl, hj⟩ := hq i hi
    exact ⟨l, _, (j : Int), .int xs[j], rfl, rfl, sq_of (f2.l hls (e1 _ _ hx)), at_of (j := j) rfl (at_int (List.getElem?_eq_getElem hj)), k _ H2 ((Fr.ex st e1).trans f2) trivial⟩
section
variable {s : Addr} {σ : L2.St} {H : Hp} {t : TT} {p : Bool → Prop} {D : Ends} {tz tu tw : TS} {j : Nat} {x : Int} {R : Int → Prop}
theorem qw_bothI (h : EvTW s t σ H p) (h1 : p true → ∀ (D' : Ends) H1, Fr s H H1 → (∀ (y : Int) H2, R y → Fr s H H2 → D'.nx (σ.set j (some (.int y))) H2) → tu D' σ H1) (h2 : p false → ∀ (D' : Ends) H1, Fr s H H1 → (∀ (y : Int) H2, R y → Fr s H H2 → D'.nx (σ.set j (some (.int y))) H2) → tw D' σ H1) (k : ∀ (y : Int) H1, R y → Fr s H H1 → tz D (σ.set j (some (.int y))) H1) : tSeq (tIfS t tu tw) tz D σ H := h _ fun b H1 f hb => by
  cases b with
  | true => exact h1 hb { D with nx := tz D } H1 f fun y H2 r f2 => k y H2 r f2
  | false => exact h2 hb { D with nx := tz D } H1 f fun y H2 r f2 => k y H2 r f2
theorem qw_whenI (hσ : σ = σ.set j (some (.int x))) (h : EvTW s t σ H p) (h1 : p true → ∀ (D' : Ends) H1, Fr s H H1 → (∀ (y : Int) H2, R y → Fr s H H2 → D'.nx (σ.set j (some (.int y))) H2) → tu D' σ H1) (hx : p false → R x) (k : ∀ (y : Int) H1, R y → Fr s H H1 → tz D (σ.set j (some (.int y))) H1) : tSeq (tIfS t tu tNext) tz D σ H :=
  qw_bothI h h1 (fun hp D' H1 f kk => by
    have := kk x H1 (hx hp) f
    rw [← hσ] at this
    exact this) k
theorem sw_whenI {D : Ends} (hσ : σ = σ.set j (some (.int x))) (h : EvTW s t σ H p) (h1 : p true → ∀ H1, Fr s H H1 → tu D σ H1) (hx : p false → R x) (k : ∀ (y : Int) H1, R y → Fr s H H1 → D.nx (σ.set j (some (.int y))) H1) : tIfS t tu tNext D σ H :=
  sw_when h h1 fun hp H1 f => by
    have := k x H1 (hx hp) f
    rw [← hσ] at this
    exact this
end
def EvXW (s : Addr) (te : TE) (σ : L2.St) (H : Hp) (S : V → Hp → Prop) : Prop := ∀ Q : VK, (∀ v H2, Fr s H H2 → S v H2 → Q v H2) → te σ H Q
theorem xw_pair {s : Addr} {σ : L2.St} {H : Hp} {ta tb : TE} {S1 S2 : V → Hp → Prop} (ha : EvXW s ta σ H S1) (hu : ∀ v G G', Fr s G G' → S1 v G → S1 v G') (hu2 : ∀ v G G', Ex G G' → S2 v G → S2 v G') (hb : ∀ H1, Fr s H H1 → EvXW s tb σ H1 S2) : EvXW s (tTup (tCons ta (tCons tb tNil))) σ H (fun v G => ∃ (p : Addr) (v1 v2 : V), v = .ref p ∧ H p = none ∧ G p = some (.tup [v1, v2]) ∧ S1 v1 G ∧ S2 v2 G) := fun Q k =>
  ha _ fun v1 H1 f1 s1 => hb H1 f1 _ fun v2 H2 f2 s2 => ⟨Nat.le_of_ble_eq_true rfl, fun p hp => by
    have f3 := Fr.ex f2.2 (Ex.new (o := .tup [v1, v2]) hp)
    exact k (.ref p) _ ((f1.trans f2).trans f3) ⟨p, v1, v2, rfl, (f1.trans f2).fresh hp, upd_same, hu _ _ _ (f2.trans f3) s1, hu2 _ _ _ (Ex.new hp) s2⟩⟩

-- K50B
/-! ### bytes of comments -/
abbrev Ne := List Nat × List Nat
def neI (e : Ne) : En := (cs e.1, cs e.2)
def lowN (n c : Nat) : List Nat := (List.range c).map fun i => n / 2 ^ (8 * i) % 256
theorem lowN_len (n c : Nat) : (lowN n c).length = c := by unfold lowN; rw [List.length_map, List.length_range]
theorem lowB_cs (n c : Nat) : lowB (n : Int) c = cs (lowN n c) := by
  unfold lowB lowN cs
  rw [List.map_map]
  refine List.map_congr_left fun i _ => ?_
  show (n : Int) / 2 ^ (8 * i) % 256 = ((n / 2 ^ (8 * i) % 256 : Nat) : Int)
  rw [Int.natCast_emod, Int.natCast_ediv, Int.natCast_pow]
  rfl
def oneB (e : Ne) : List Nat := e.1 ++ (61 :: utfB e.2)
def entB (e : Ne) : List Nat := lowN (oneB e).length 4 ++ oneB e
def entsB (l : List Ne) : List Nat := l.flatMap entB
def cmB (vd : List Nat) (l : List Ne) : List Nat := (lowN (utfB vd).length 4 ++ (utfB vd ++ lowN l.length 4)) ++ entsB l
def NeOk (e : Ne) : Prop := (∀ c ∈ e.1, 32 ≤ c ∧ c ≤ 126 ∧ c ≠ 61) ∧ e.1 ≠ [] ∧ (∀ t ∈ e.2, ptOk t) ∧ e.1.length ≤ 1000 ∧ e.2.length ≤ 1000
def CmOk (vd : List Nat) (l : List Ne) : Prop := (∀ t ∈ vd, ptOk t) ∧ vd.length ≤ 1000 ∧ (∀ e ∈ l, NeOk e) ∧ l.length ≤ 1000 ∧ (cmB vd l).length ≤ 30000
theorem pt_lt {ts : List Nat} (h : ∀ t ∈ ts, ptOk t) : ∀ t ∈ ts, t < 2097152 := fun t ht => by have := (h t ht).1; omega
theorem entsB_snoc {l : List Ne} {i : Nat} {e : Ne} (h : l[i]? = some e) : entsB (l.take (i + 1)) = entsB (l.take i) ++ entB e := by
  unfold entsB
  rw [take_at h, List.flatMap_append]
  show _ ++ (_ ++ []) = _
  rw [List.append_nil]
theorem entsB_le {l : List Ne} (i : Nat) : (entsB (l.take i)).length ≤ (entsB l).length := by
  have : entsB l = entsB (l.take i) ++ entsB (l.drop i) := by unfold entsB; rw [← List.flatMap_append, List.take_append_drop]
  rw [this, List.length_append]
  omega
theorem entB_le {l : List Ne} {i : Nat} {e : Ne} (h : l[i]? = some e) : (entsB (l.take i)).length + (entB e).length ≤ (entsB l).length := by
  have := entsB_le (l := l) (i + 1)
  rw [entsB_snoc h, List.length_append] at this
  exact this
theorem cm_len (vd : List Nat) (l : List Ne) : (cmB vd l).length = 8 + (utfB vd).length + (entsB l).length := by
  unfold cmB
  rw [List.length_append, List.length_append, List.length_append, lowN_len, lowN_len]
  omega
theorem ne_at {l : List Ne} {i : Nat} {e : En} (h : (l.map neI)[i]? = some e) : ∃ e', l[i]? = some e' ∧ e = neI e' := by
  rw [List.getElem?_map] at h
  obtain ⟨e', h1, rfl⟩ := Option.map_eq_some_iff.mp h
  exact ⟨e', h1, rfl⟩
theorem map_cs2 (a b : List Nat) : (cs a).map V.int ++ (cs b).map V.int = (cs (a ++ b)).map V.int := by rw [cs_append, List.map_append]
theorem el_lbN {σ : L2.St} {H : Hp} {t1 t2 : TE} {E : XK} {n c : Nat} (h1 : Ev t1 σ H (.int (n : Int))) (h2 : Ev t2 σ H (.int (c : Int))) (hc : c ≤ 1000) : EvL (tCall sp_lowl [] E (tCons t1 (tCons t2 tNil))) σ H ((cs (lowN n c)).map V.int) := EvL.is (el_lb h1 h2 hc) (by rw [lowB_cs])
def sp_wcm (C : Addr) : Sp := fun vs H Q _ => ∃ (c : Addr) (vd : List Nat) (l : List Ne), vs = [.ref c] ∧ CmN (fun _ => True) C H c (cs vd) (l.map neI) ∧ CmOk vd l ∧ RetL ((cs (cmB vd l)).map V.int) H Q
theorem ok_write_comments (T : TX K mg) : FnOk P w K mg base CX0 4 T.a_write_comments T.d_write_comments ["comments"] (sp_wcm T.C_Comments) := by
  refine T.F_write_comments.ok sc_write_comments (fun vs H Q E h => by obtain ⟨c, vd, l, rfl, _⟩ := h; rfl) (fun cdv A outer s H vs Q E hr h => ?_)
  obtain ⟨c, vd, l, rfl, hC, ⟨hv, hvl, hl, hll, htot⟩, k⟩ := h
  refine ⟨_, (pss_cons (ps_set (i := 1) sc_write_comments.nd rfl (Or.inl rfl) (pe_call (ok_write_utf8 T) (hr.mono (by decide)) (by rfl) T.g_write_utf8 T.F_write_utf8.kp T.b_write_utf8 .nil pass0 (pa_cons (pe_fld (pv 0) rfl) pa_nil)))
      (pss_cons (ps_set (i := 2) sc_write_comments.nd rfl (Or.inl rfl) (pe_op op_cat (pe_op op_cat (pe_call (ok_little_bytes T) (hr.mono (by decide)) (by rfl) T.g_little_bytes T.F_little_bytes.kp T.b_little_bytes .nil pass0 (pa_cons (pe_callB (r := rLenS K) call_len_seq (by rfl) T.m_len PySem.boot_len (pa_cons (pv 1) pa_nil)) (pa_cons pe_int pa_nil))) (pv 1)) (pe_call (ok_little_bytes T) (hr.mono (by decide)) (by rfl) T.g_little_bytes T.F_little_bytes.kp T.b_little_bytes .nil pass0 (pa_cons (pe_callB (r := rLenS K) call_len_seq (by rfl) T.m_len PySem.boot_len (pa_cons (pe_fld (pv 0) rfl) pa_nil)) (pa_cons pe_int pa_nil)))))
      (pss_cons (ps_for PassesOwn.never rfl (pi_list (pe_fld (pv 0) rfl)) (pg_tup rfl (pgs_cons (pg_name (i := 3) sc_write_comments.nd rfl (Or.inl rfl)) (pgs_cons (pg_name (i := 4) sc_write_comments.nd rfl (Or.inl rfl)) pgs_nil))) (pss_cons (ps_set (i := 5) sc_write_comments.nd rfl (Or.inl rfl) (pe_op op_cat (pe_op op_cat (pv 3) (pe_lst (pa_cons (pe_glob (by rfl) T.c_EQUALS T.r_EQUALS) pa_nil))) (pe_call (ok_write_utf8 T) (hr.mono (by decide)) (by rfl) T.g_write_utf8 T.F_write_utf8.kp T.b_write_utf8 .nil pass0 (pa_cons (pv 4) pa_nil))))
        (pss_cons (ps_expr (pe_bm PySem.F.plainAttrs_list PySem.F.slot_list_extend PySem.F.type_list_extend mt_extend (pv 2) (pa_cons (pe_call (ok_little_bytes T) (hr.mono (by decide)) (by rfl) T.g_little_bytes T.F_little_bytes.kp T.b_little_bytes .nil pass0 (pa_cons (pe_callB (r := rLenS K) call_len_seq (by rfl) T.m_len PySem.boot_len (pa_cons (pv 5) pa_nil)) (pa_cons pe_int pa_nil))) pa_nil)))
        (pss_one (ps_expr (pe_bm PySem.F.plainAttrs_list PySem.F.slot_list_extend PySem.F.type_list_extend mt_extend (pv 2) (pa_cons (pv 5) pa_nil)))))))
      (pss_one (ps_ret (pv 2)))))), ?_⟩
  obtain ⟨dx, pv, pe, as, gc, gv, ge, hE⟩ := cm_get hC
  have hcl := cm_len vd l
  refine q_asgL (el_wutf (Ev.s (ev_fld T.cl_Comments T.n_Comments_vendor (ev_var rfl) gc rfl) (sq_of gv)) (by omega) (pt_lt hv)) fun pu H1 hpu e1 gu => ?_
  obtain ⟨D0, hD0⟩ : ∃ D0, lowN (utfB vd).length 4 ++ (utfB vd ++ lowN l.length 4) = D0 := ⟨_, rfl⟩
  have hD0l : D0.length = 8 + (utfB vd).length := by rw [← hD0, List.length_append, List.length_append, lowN_len, lowN_len]; omega
  refine q_asgL (xs := (cs D0).map V.int) (EvL.is (el_cat (EvL.r (el_cat (EvL.r (el_lbN (c := 4) (Ev.is (ev_lenS (K := K) (Ev.s (ev_var rfl) (sq_of gu))) (by rw [List.length_map, cs_len])) ev_c (by decide))) (Ev.r (ev_var rfl) gu) (by rw [List.length_map, cs_len, lowN_len, List.length_map, cs_len]; omega))) (EvL.r (el_lbN (n := l.length) (c := 4) (Ev.is (ev_lenS (K := K) (Ev.s (ev_fld T.cl_Comments T.n_Comments_entries (ev_var rfl) (e1 _ _ gc) rfl) (sq_of (e1 _ _ ge)))) (by rw [List.length_map, hE.1, List.length_map])) ev_c (by decide))) (by rw [List.length_append, List.length_map, cs_len, lowN_len, List.length_map, cs_len, List.length_map, cs_len, lowN_len]; omega)) (by rw [map_cs2, map_cs2, ← hD0, List.append_assoc])) fun pd H2 hpd e2 gd => ?_
  have e12 := e1.trans e2
  have hpdH := fresh_back e1 hpd
  have hwhole : cmB vd l = D0 ++ entsB l := by unfold cmB; rw [hD0]
  rw [hwhole] at k
  show tSeq _ _ _ [some (.ref c), some (.ref pu), some (.ref pd), none, none, none] _
  refine q_forL (K := K) (a := pe) (xs := as.map V.ref) (ev_fld T.cl_Comments T.n_Comments_entries (ev_var rfl) (e12 _ _ gc) rfl) (sq_of (e12 _ _ ge)) (fun i σ' H' => ∃ z3 z4 z5 : Option V, σ' = [some (.ref c), some (.ref pu), some (.ref pd), z3, z4, z5] ∧ Ex H H' ∧ H' pd = some (.lst ((cs (D0 ++ entsB (l.take i))).map V.int))) (fun H3 e3 => ⟨none, none, none, rfl, e12.trans e3, by rw [List.take_zero]; show _ = some (HO.lst ((cs (D0 ++ [])).map V.int)); rw [List.append_nil]; exact e3 _ _ gd⟩) (fun i σ' H' _ h => by obtain ⟨_, _, _, _, ex, _⟩ := h; exact sq_of (ex _ _ ge)) ?_ ?_
  · rintro i x σ' H3 hx ⟨z3, z4, z5, rfl, ex, gp⟩
    obtain ⟨ai, e, hai, hei, rfl, hi, _, pn, pw, q0, _, q1, _, q2⟩ := hE.get hx
    obtain ⟨e', he', rfl⟩ := ne_at hei
    obtain ⟨h1, h2, h3, h4, h5⟩ := hl e' (List.mem_of_getElem? he')
    have hle := entB_le he'
    have hel : (entB e').length = 4 + (oneB e').length := by unfold entB; rw [List.length_append, lowN_len]
    have hol : (oneB e').length = e'.1.length + 1 + (utfB e'.2).length := by unfold oneB; rw [List.length_append, List.length_cons]; omega
    refine ⟨ai, [.ref pn, .ref pw], rfl, st_of (ex _ _ q0), rfl, _, _, rfl, _, _, rfl, rfl, ?_⟩
    refine q_asgL (xs := (cs (oneB e')).map V.int) (EvL.is (el_cat (EvL.r (el_cat (xs := (cs e'.1).map V.int) (Ev.r (ev_var rfl) (ex _ _ q1)) (EvL.r (EvL.is (el_lst (ea_cons ev_c ea_nil) (by decide)) (show _ = (cs [61]).map V.int from rfl))) (by rw [List.length_map, cs_len]; show _ + 1 ≤ _; omega))) (EvL.r (el_wutf (ts := e'.2) (Ev.s (ev_var rfl) (sq_of (ex _ _ q2))) (by omega) (pt_lt h3))) (by rw [List.length_append, List.length_map, cs_len, List.length_map, cs_len, List.length_map, cs_len]; show _ + 1 + _ ≤ _; omega)) (by rw [map_cs2, map_cs2]; unfold oneB; rw [List.append_assoc]; rfl)) fun po H4 hpo e4 go => ?_
    have npd : po ≠ pd := ne_known hpo (by rw [gp]; exact fun z => nomatch z)
    refine q_ext (zs := (cs (lowN (oneB e').length 4)).map V.int) (e4 _ _ gp) (ev_var rfl) (EvL.r (el_lbN (c := 4) (Ev.is (ev_lenS (K := K) (Ev.s (ev_var rfl) (sq_of go))) (by rw [List.length_map, cs_len])) ev_c (by decide))) (by rw [List.length_map, cs_len, List.length_append, List.length_map, cs_len, lowN_len]; omega) fun H5 e5 => ?_
    refine s_ext (zs := (cs (oneB e')).map V.int) upd_same (ev_var rfl) (Ev.r (ev_var rfl) (by rw [upd_ne npd]; exact e5 _ _ go)) (by rw [List.length_append, List.length_map, cs_len, List.length_append, List.length_map, cs_len, lowN_len, List.length_map, cs_len]; omega) fun H6 e6 => ⟨_, _, _, rfl, Ex.mut ((Ex.mut (ex.trans (e4.trans e5)) hpdH).trans e6) hpdH, ?_⟩
    rw [upd_same, map_cs2, map_cs2, entsB_snoc he']
    unfold entB
    simp only [List.append_assoc]
  · rintro σ' H3 ⟨z3, z4, z5, rfl, ex, gp⟩
    rw [List.length_map, hE.1, List.length_map, List.take_length] at gp
    exact s_ret (ev_var rfl) fun H4 e4 => k pd H4 hpdH (ex.trans e4) (e4 _ _ gp)
/-! ### reading -/
def sp_chk : Sp := fun vs H Q _ => ∃ a b c : Nat, vs = [.int (a : Int), .int (b : Int), .int (c : Int)] ∧ a + b ≤ c ∧ RetV .non H Q
theorem ok_check_inside (T : TX K mg) : FnOk P w K mg base CX0 1 T.a_check_inside T.d_check_inside ["place", "count", "stop"] sp_chk := by
  refine T.F_check_inside.ok sc_check_inside (fun vs H Q E h => by obtain ⟨a, b, c, rfl, _⟩ := h; rfl) (fun cdv A outer s H vs Q E hr h => ?_)
  obtain ⟨a, b, c, rfl, hle, k⟩ := h
  refine ⟨_, (pss_one (ps_if (pt_cmpR op_gt (pe_op op_add (pv 0) (pv 1)) (pv 2) (nomark _)) (pss_one ps_never) pss_nil)), ?_⟩
  exact s_when (b := false) (et_is (et_test (ev_I0 (g := fun i j => .bl (decide (j < i))) (ev_I0 (g := fun i j => .int (i + j)) (ev_var rfl) (ev_var rfl)) (ev_var rfl))) (decide_eq_false (by omega))) (fun h => by cases h) fun _ H1 e1 => k.go e1
theorem q_chk {t1 t2 t3 : TE} {σ : L2.St} {H : Hp} {E : XK} {D : Ends} {tz : TS} {a b c : Nat} (h1 : Ev t1 σ H (.int (a : Int))) (h2 : Ev t2 σ H (.int (b : Int))) (h3 : Ev t3 σ H (.int (c : Int))) (hle : a + b ≤ c) (k : ∀ H1, Ex H H1 → tz D σ H1) : tSeq (tDrop (tCall sp_chk [] E (tCons t1 (tCons t2 (tCons t3 tNil))))) tz D σ H :=
  q_dropC (ea_cons h1 (ea_cons h2 (ea_cons h3 ea_nil))) fun H1 e1 => ⟨a, b, c, rfl, hle, fun H2 e2 => k H2 (e1.trans e2)⟩
def sp_rln (K : PySem.W.Frag) : Sp := fun vs H Q _ => ∃ (p : Addr) (ds : List Int) (pl st n : Nat), vs = [.ref p, .int (pl : Int), .int (st : Int)] ∧ SqL K H p (ds.map V.int) ∧ HasN ds pl 4 n ∧ n < 4294967296 ∧ pl + 4 + n ≤ st ∧ RetV (.int (n : Int)) H Q
theorem ok_read_length (T : TX K mg) : FnOk P w K mg base CX0 2 T.a_read_length T.d_read_length ["data", "place", "stop"] (sp_rln K) := by
  refine T.F_read_length.ok sc_read_length (fun vs H Q E h => by obtain ⟨p, ds, pl, st, n, rfl, _⟩ := h; rfl) (fun cdv A outer s H vs Q E hr h => ?_)
  obtain ⟨p, ds, pl, st, n, rfl, hS, hN, hn, hle, k⟩ := h
  refine ⟨_, (pss_cons (ps_expr (pe_call (ok_check_inside T) (hr.mono (by decide)) (by rfl) T.g_check_inside T.F_check_inside.kp T.b_check_inside .nil pass0 (pa_cons (pv 1) (pa_cons pe_int (pa_cons (pv 2) pa_nil)))))
      (pss_cons (ps_set (i := 3) sc_read_length.nd rfl (Or.inl rfl) (pe_call (ok_little_number T) (hr.mono (by decide)) (by rfl) T.g_little_number T.F_little_number.kp T.b_little_number .nil pass0 (pa_cons (pv 0) (pa_cons (pv 1) (pa_cons pe_int pa_nil)))))
      (pss_cons (ps_if (pt_cmpR op_gt (pv 3) (pe_op op_sub (pe_op op_sub (pv 2) (pv 1)) pe_int) (nomark _)) (pss_one ps_never) pss_nil)
      (pss_one (ps_ret (pv 3)))))), ?_⟩
  refine q_chk (b := 4) (ev_var rfl) ev_c (ev_var rfl) (by omega) fun H1 e1 => ?_
  refine q_asg (v := .int (n : Int)) (ev_lnum (m := 4) (Ev.s (ev_var rfl) (ex_l e1 hS)) (ev_var rfl) ev_c (by decide) hN hn) fun H2 e2 => ?_
  refine q_when (b := false) (et_is (et_test (ev_I0 (g := fun i j => .bl (decide (j < i))) (ev_var rfl) (ev_I0 (g := fun i j => .int (i - j)) (ev_I0 (g := fun i j => .int (i - j)) (ev_var rfl) (ev_var rfl)) ev_c))) (decide_eq_false (by omega))) (fun h => by cases h) fun _ H3 e3 => ?_
  exact s_ret (ev_var rfl) fun H4 e4 => k.go (e1.trans (e2.trans (e3.trans e4)))
theorem ev_rln {t1 t2 t3 : TE} {σ : L2.St} {H : Hp} {E : XK} {ds : List Int} {pl st n : Nat} (h1 : EvS K t1 σ H (ds.map V.int)) (h2 : Ev t2 σ H (.int (pl : Int))) (h3 : Ev t3 σ H (.int (st : Int))) (hN : HasN ds pl 4 n) (hn : n < 4294967296) (hle : pl + 4 + n ≤ st) : Ev (tCall (sp_rln K) [] E (tCons t1 (tCons t2 (tCons t3 tNil)))) σ H (.int (n : Int)) := fun H1 e Q q =>
  h1 H1 e _ fun p H2 e2 hp => h2 H2 (e.trans e2) _ fun H3 e3 => h3 H3 ((e.trans e2).trans e3) _ fun H4 e4 => ⟨p, ds, pl, st, n, rfl, ex_l (e3.trans e4) hp, hN, hn, hle, fun H5 e5 => q H5 (((e2.trans e3).trans e4).trans e5)⟩
theorem has_low {pre post : List Nat} {n c : Nat} (h : n < 2 ^ (8 * c)) : HasN (cs (pre ++ (lowN n c ++ post))) pre.length c n := HasN.ofN (r := cs post) (by rw [cs_append, ← cs_len pre, List.drop_left, cs_append, lowB_cs]) h
theorem drop_pre {pre post : List Nat} : (cs (pre ++ post)).drop pre.length = cs post := by rw [cs_append, ← cs_len pre, List.drop_left]
theorem ev_notinL {σ : L2.St} {H : Hp} {ta tb : TE} {x : Int} {p : Addr} {xs : List Int} (ha : Ev ta σ H (.int x)) (hb : Ev tb σ H (.ref p)) (g : H p = some (.lst (xs.map V.int))) (hx : x ∈ xs) : Ev (tOp (rIn K true) ta tb) σ H (.bl false) := fun H1 e Q q =>
  ha H1 e _ fun H2 e2 => hb H2 (e.trans e2) _ fun H3 e3 => ⟨p, xs.map V.int, rfl, .inl (sq_of (((e.trans e2).trans e3) _ _ g)), rfl, by simp [flatV], by
    have : inV (.int x) (xs.map V.int) = true := by
      unfold inV
      rw [List.any_map, List.any_eq_true]
      exact ⟨x, hx, by simp [eqV]⟩
    rw [if_pos rfl, this]
    exact q H3 (e2.trans e3)⟩
theorem ev_index {σ : L2.St} {H : Hp} {ta tb : TE} {x : Int} {p : Addr} {xs : List Int} {j : Nat} (ha : Ev ta σ H (.ref p)) (g : H p = some (.lst (xs.map V.int))) (hb : Ev tb σ H (.int x)) (hj : xs[j]? = some x) (hne : ∀ m, m < j → xs[m]? ≠ some x) : Ev (tBM K "list" (rIndex K) ta (tCons tb tNil)) σ H (.int (j : Int)) := fun H1 e Q q =>
  ha H1 e _ fun H2 e2 => ⟨.inl ⟨rfl, _, sq_of ((e.trans e2) _ _ g)⟩, hb H2 (e.trans e2) _ fun H3 e3 => ⟨p, xs.map V.int, .int x, j, .int x, rfl, rfl, sq_of (((e.trans e2).trans e3) _ _ g), rfl, by simp [flatV], at_int hj, by simp [eqV], fun m z hm hz => by
    obtain ⟨n, hn, _, rfl⟩ := int_at hz
    have := hne m hm
    show (n == x) = false
    rw [beq_eq_false_iff_ne]
    rintro rfl
    exact this hn, q H3 (e2.trans e3)⟩⟩
def sp_ren (K : PySem.W.Frag) : Sp := fun vs H Q _ => ∃ (p : Addr) (pre post : List Nat) (e : Ne), vs = [.ref p, .int (pre.length : Int), .int ((pre.length + (entB e).length : Nat) : Int)] ∧ SqL K H p ((cs (pre ++ (entB e ++ post))).map V.int) ∧ NeOk e ∧ pre.length + (entB e).length ≤ 90000 ∧ ∀ T0 pn pv H', H T0 = none → H pn = none → H pv = none → Ex H H' → H' T0 = some (.tup [.ref pn, .ref pv]) → H' pn = some (.lst ((cs e.1).map V.int)) → H' pv = some (.lst ((cs e.2).map V.int)) → Q (.ref T0) H'
theorem ok_read_entry (T : TX K mg) : FnOk P w K mg base CX0 4 T.a_read_entry T.d_read_entry ["data", "place", "stop"] (sp_ren K) := by
  refine T.F_read_entry.ok sc_read_entry (fun vs H Q E h => by obtain ⟨p, pre, post, e, rfl, _⟩ := h; rfl) (fun cdv A outer s H vs Q E hr h => ?_)
  obtain ⟨p, pre, post, e, rfl, hS, ⟨h1, h2, h3, h4, h5⟩, hlen, k⟩ := h
  refine ⟨_, (pss_cons (ps_set (i := 3) sc_read_entry.nd rfl (Or.inl rfl) (pe_op op_add (pv 1) pe_int))
      (pss_cons (ps_set (i := 4) sc_read_entry.nd rfl (Or.inl rfl) (pe_slice (r := rSlL K) sl_list (pv 0) (po_some (pv 3)) (po_some (pv 2))))
      (pss_cons (ps_if (PW.pt (pw_or (pt_cmpR op_notIn_seq (pe_glob (by rfl) T.c_EQUALS T.r_EQUALS) (pv 4) (by with_unfolding_all rfl)) (pw_or1 (pt_cmpR op_eq (pe_ix (r := rIxL K) ix_list (pv 4) pe_int (fun _ _ => rfl)) (pe_glob (by rfl) T.c_EQUALS T.r_EQUALS) (nomark _))))) (pss_one ps_never) pss_nil)
      (pss_cons (ps_set (i := 5) sc_read_entry.nd rfl (Or.inl rfl) (pe_op op_add (pv 3) (pe_bm PySem.F.plainAttrs_list PySem.F.slot_list_index PySem.F.type_list_index mt_index (pv 4) (pa_cons (pe_glob (by rfl) T.c_EQUALS T.r_EQUALS) pa_nil))))
      (pss_cons (ps_for PassesOwn.never rfl (pi_range2 (by rfl) T.m_range (pa_cons (pv 3) (pa_cons (pv 5) pa_nil))) (pg_name (i := 6) sc_read_entry.nd rfl (Or.inl rfl)) (pss_one (ps_if (PW.pt (pw_or (pt_cmpR op_lt (pe_ix (r := rIxL K) ix_list (pv 0) (pv 6) (fun _ _ => rfl)) pe_int (nomark _)) (pw_or1 (pt_cmpR op_gt (pe_ix (r := rIxL K) ix_list (pv 0) (pv 6) (fun _ _ => rfl)) pe_int (nomark _))))) (pss_one ps_never) pss_nil)))
      (pss_one (ps_ret (pe_tup (pa_cons (pe_slice (r := rSlL K) sl_list (pv 0) (po_some (pv 3)) (po_some (pv 5))) (pa_cons (pe_call (ok_read_utf8 T) (hr.mono (by decide)) (by rfl) T.g_read_utf8 T.F_read_utf8.kp T.b_read_utf8 .nil pass0 (pa_cons (pv 0) (pa_cons (pe_op op_add (pv 5) pe_int) (pa_cons (pv 2) pa_nil)))) pa_nil)))))))))), ?_⟩
  have hel : (entB e).length = 4 + (oneB e).length := by unfold entB; rw [List.length_append, lowN_len]
  have hol : (oneB e).length = e.1.length + 1 + (utfB e.2).length := by unfold oneB; rw [List.length_append, List.length_cons]; omega
  obtain ⟨pre4, hp4⟩ : ∃ pre4, pre ++ lowN (oneB e).length 4 = pre4 := ⟨_, rfl⟩
  have hp4l : pre4.length = pre.length + 4 := by rw [← hp4, List.length_append, lowN_len]
  have hD : pre ++ (entB e ++ post) = pre4 ++ (oneB e ++ post) := by rw [← hp4]; unfold entB; simp only [List.append_assoc]
  rw [hD] at hS
  rw [hel]
  have hat : ∀ {σ : L2.St} {G : Hp} {m : Nat} {c : Nat} {ti : TE}, σ[0]? = some (some (.ref p)) → Ex H G → Ev ti σ G (.int ((pre4.length + m : Nat) : Int)) → (oneB e)[m]? = some c → Ev (tOp (rIxL K) (tVar 0) ti) σ G (.int (c : Int)) := fun {σ G m c ti} h0 eG hi hm => ev_at (K := K) (Ev.s (ev_var h0) (ex_l eG hS)) hi (at_of (j := pre4.length + m) rfl (at_int (cs_at (by rw [List.getElem?_append_right (by omega), Nat.add_sub_cancel_left, List.getElem?_append_left (List.getElem?_eq_some_iff.mp hm).1]; exact hm))))
  refine q_asg (v := .int (pre4.length : Int)) (Ev.is (ev_I0 (g := fun i j => .int (i + j)) (ev_var rfl) ev_c) (congrArg V.int (by omega))) fun H1 e1 => ?_
  refine q_asgL (xs := (cs (oneB e)).map V.int) (EvL.is (el_mid (i := pre4.length) (j := pre.length + (4 + (oneB e).length)) (Ev.s (ev_var rfl) (ex_l e1 hS)) (ev_var rfl) (ev_var rfl)) (by rw [drop_pre, show pre.length + (4 + (oneB e).length) - pre4.length = (oneB e).length by omega, cs_take, List.take_left])) fun pc H2 hpc e2 gc => ?_
  have e12 := e1.trans e2
  have hmem : (61 : Int) ∈ cs (oneB e) := by unfold cs oneB; simp
  obtain ⟨c0, hc0⟩ : ∃ c0, e.1[0]? = some c0 := by
    cases he : e.1 with
    | nil => exact absurd he h2
    | cons x r => exact ⟨x, rfl⟩
  have hone : ∀ {m c : Nat}, e.1[m]? = some c → (oneB e)[m]? = some c := fun {m c} h => by unfold oneB; rw [List.getElem?_append_left (List.getElem?_eq_some_iff.mp h).1]; exact h
  have hc61 := (h1 c0 (List.mem_of_getElem? hc0)).2.2
  refine q_when (b := false) (et_is (et_or (a := false) (b := false) (et_is (et_test (ev_notinL (K := K) ev_c (ev_var rfl) gc hmem)) rfl) fun _ => et_is (et_test (ev_eq (x := .int (c0 : Int)) (y := .int 61) (ev_at (K := K) (n := 0) (Ev.s (ev_var rfl) (sq_of gc)) ev_c (at_of (j := 0) rfl (at_int (cs_at (hone hc0))))) ev_c rfl)) (decide_eq_false (by intro h; injection h with h; omega))) rfl) (fun h => by cases h) fun _ H3 e3 => ?_
  have e13 := e12.trans e3
  refine q_asg (v := .int ((pre4.length + e.1.length : Nat) : Int)) (Ev.is (ev_I0 (g := fun i j => .int (i + j)) (ev_var rfl) (ev_index (K := K) (j := e.1.length) (ev_var rfl) (e3 _ _ gc) ev_c (cs_at (d := 61) (by unfold oneB; rw [List.getElem?_append_right (Nat.le_refl _), Nat.sub_self]; rfl)) (fun m hm => ?_))) (congrArg V.int (by omega))) fun H4 e4 => ?_
  · have hm1 : e.1[m]? = some (e.1[m]'hm) := List.getElem?_eq_getElem _
    have h61 := (h1 _ (List.mem_of_getElem? hm1)).2.2
    rw [cs_at (hone hm1)]
    intro h
    injection h with h
    omega
  have e14 := e13.trans e4
  show tSeq _ _ _ [some (.ref p), some (.int (pre.length : Int)), some (.int ((pre.length + (4 + (oneB e).length) : Nat) : Int)), some (.int (pre4.length : Int)), some (.ref pc), some (.int ((pre4.length + e.1.length : Nat) : Int)), none] _
  refine q_forR2 (lo := (pre4.length : Int)) (n := ((pre4.length + e.1.length : Nat) : Int)) (ea_cons (ev_var rfl) (ea_cons (ev_var rfl) ea_nil)) (by omega) (fun i σ' H' => ∃ z : Option V, σ' = [some (.ref p), some (.int (pre.length : Int)), some (.int ((pre.length + (4 + (oneB e).length) : Nat) : Int)), some (.int (pre4.length : Int)), some (.ref pc), some (.int ((pre4.length + e.1.length : Nat) : Int)), z] ∧ Ex H H') (fun H5 e5 => ⟨none, rfl, e14.trans e5⟩) ?_ ?_
  · rintro i σ' H5 hi ⟨z, rfl, ex⟩
    have hm1 : e.1[i]? = some (e.1[i]'(by omega)) := List.getElem?_eq_getElem _
    have hb := h1 _ (List.mem_of_getElem? hm1)
    have ho := hone hm1
    generalize e.1[i]'(by omega) = c at *
    exact s_when (b := false) (et_is (et_or (a := false) (b := false) (et_is (et_test (ev_I0 (g := fun i j => .bl (decide (i < j))) (hat rfl ex (Ev.is (ev_var rfl) (congrArg V.int (by omega))) ho) ev_c)) (decide_eq_false (by omega))) fun _ => et_is (et_test (ev_I0 (g := fun i j => .bl (decide (j < i))) (hat rfl ex (Ev.is (ev_var rfl) (congrArg V.int (by omega))) ho) ev_c)) (decide_eq_false (by omega))) rfl) (fun h => by cases h) fun _ H6 e6 => ⟨_, rfl, ex.trans e6⟩
  · rintro σ' H5 ⟨z, rfl, ex⟩
    have hsp : pre4 ++ (oneB e ++ post) = (pre4 ++ (e.1 ++ [61])) ++ (utfB e.2 ++ post) := by unfold oneB; simp only [List.append_assoc, List.cons_append, List.nil_append]
    have hl2 : (pre4 ++ (e.1 ++ [61])).length = pre4.length + e.1.length + 1 := by rw [List.length_append, List.length_append]; show _ + (_ + 1) = _; omega
    refine ex_go (te := tTup (tCons (tSl (rSlL K) (tVar 0) (tPart (tVar 3)) (tPart (tVar 5))) (tCons (tCall (sp_rutf K) [] _ (tCons (tVar 0) (tCons (tOp (rI0 fun i j => .int (i + j)) (tVar 5) (tC (.int 1))) (tCons (tVar 2) tNil)))) tNil))) (σ := [some (.ref p), some (.int (pre.length : Int)), some (.int ((pre.length + (4 + (oneB e).length) : Nat) : Int)), some (.int (pre4.length : Int)), some (.ref pc), some (.int ((pre4.length + e.1.length : Nat) : Int)), z]) (H := H5) (ex_tupF (ap_l (xs := (cs e.1).map V.int) (EvL.is (el_mid (i := pre4.length) (j := pre4.length + e.1.length) (Ev.s (ev_var rfl) (ex_l ex hS)) (ev_var rfl) (ev_var rfl)) (by rw [drop_pre, Nat.add_sub_cancel_left, cs_take]; unfold oneB; rw [List.append_assoc, List.take_left])) (ap_l (xs := (cs e.2).map V.int) (el_rutf (pre := pre4 ++ (e.1 ++ [61])) (ts := e.2) (post := post) (Ev.s (ev_var rfl) (by rw [← hsp]; exact ex_l ex hS)) (Ev.is (ev_I0 (g := fun i j => .int (i + j)) (ev_var rfl) ev_c) (congrArg V.int (by rw [hl2]; omega))) (Ev.is (ev_var rfl) (congrArg V.int (by rw [hl2]; omega))) (by omega) h3) ap_nil)) (fun vs G hR => by obtain ⟨_, _, rfl, _, _, _, _, rfl, _, _, rfl⟩ := hR; exact Nat.le_of_ble_eq_true rfl)) fun v H6 e6 hv => ?_
    obtain ⟨pt, vs, G0, rfl, hpt, gpt, eG, q1, _, rfl, hq1, g1, q2, _, rfl, hq2, g2, rfl⟩ := hv
    exact k pt q1 q2 H6 (fresh_back ex hpt) (fresh_back ex hq1) (fresh_back ex hq2) (ex.trans e6) gpt (eG _ _ g1) (eG _ _ g2)

-- K50X
/-! ### comments read -/
theorem q_appO {σ : L2.St} {H : Hp} {ta te : TE} {l : Addr} {xs : List V} {D : Ends} {tz : TS} {S : V → Hp → Prop} (hl : H l = some (.lst xs)) (ha : Ev ta σ H (.ref l)) (h : EvX te σ H S) (hz : xs.length < 100000) (k : ∀ v H1, Ex H H1 → S v H1 → tz D σ (upd H1 l (.lst (xs ++ [v])))) : tSeq (tDrop (tBM K "list" rAppend ta (tCons te tNil))) tz D σ H :=
  ha H (Ex.refl _) _ fun H1 e1 => ⟨.inl ⟨rfl, xs, sq_of (e1 _ _ hl)⟩, h H1 e1 _ fun v H2 e2 hv => ⟨l, xs, v, rfl, rfl, (e1.trans e2) _ _ hl, sz_lt hz, k v H2 (e1.trans e2) hv⟩⟩
theorem ex_ren {σ : L2.St} {H : Hp} {t1 t2 t3 : TE} {E : XK} {p : Addr} {pre post : List Nat} {e : Ne} (h1 : Ev t1 σ H (.ref p)) (hS : SqL K H p ((cs (pre ++ (entB e ++ post))).map V.int)) (h2 : Ev t2 σ H (.int (pre.length : Int))) (h3 : Ev t3 σ H (.int ((pre.length + (entB e).length : Nat) : Int))) (hO : NeOk e) (hl : pre.length + (entB e).length ≤ 90000) : EvX (tCall (sp_ren K) [] E (tCons t1 (tCons t2 (tCons t3 tNil)))) σ H (fun v G => ∃ T0 pn pv, v = .ref T0 ∧ H T0 = none ∧ H pn = none ∧ H pv = none ∧ G T0 = some (.tup [.ref pn, .ref pv]) ∧ G pn = some (.lst ((cs e.1).map V.int)) ∧ G pv = some (.lst ((cs e.2).map V.int))) := fun H1 e1 Q q =>
  (ea_cons h1 (ea_cons h2 (ea_cons h3 ea_nil))) H1 e1 _ fun H2 e2 => ⟨p, pre, post, e, rfl, ex_l (e1.trans e2) hS, hO, hl, fun T0 pn pv H3 n0 n1 n2 e3 g0 g1 g2 => q (.ref T0) H3 (e2.trans e3) ⟨T0, pn, pv, rfl, fresh_back (e1.trans e2) n0, fresh_back (e1.trans e2) n1, fresh_back (e1.trans e2) n2, g0, g1, g2⟩⟩
theorem entsB_split {l : List Ne} {i : Nat} {e : Ne} (h : l[i]? = some e) : entsB l = entsB (l.take i) ++ (entB e ++ entsB (l.drop (i + 1))) := by
  have h1 : l = l.take (i + 1) ++ l.drop (i + 1) := (List.take_append_drop ..).symm
  conv => lhs; rw [h1]
  unfold entsB
  rw [List.flatMap_append]
  have h2 := entsB_snoc h
  unfold entsB at h2
  rw [h2, List.append_assoc]
def sp_rcm (K : PySem.W.Frag) (C : Addr) : Sp := fun vs H Q _ => ∃ (p : Addr) (pre post vd : List Nat) (l : List Ne), vs = [.ref p, .int (pre.length : Int), .int ((pre.length + (cmB vd l).length : Nat) : Int)] ∧ SqL K H p ((cs (pre ++ (cmB vd l ++ post))).map V.int) ∧ CmOk vd l ∧ pre.length ≤ 1000 ∧ ∀ c H', H c = none → Ex H H' → CmN (fun b => H b = none) C H' c (cs vd) (l.map neI) → Q (.ref c) H'
theorem ok_read_comments (T : TX K mg) : FnOk P w K mg base CX0 5 T.a_read_comments T.d_read_comments ["data", "start", "stop"] (sp_rcm K T.C_Comments) := by
  refine T.F_read_comments.ok sc_read_comments (fun vs H Q E h => by obtain ⟨p, pre, post, vd, l, rfl, _⟩ := h; rfl) (fun cdv A outer s H vs Q E hr h => ?_)
  obtain ⟨p, pre, post, vd, l, rfl, hS, ⟨hv, hvl, hl, hll, htot⟩, hpre, k⟩ := h
  refine ⟨_, (pss_cons (ps_set (i := 3) sc_read_comments.nd rfl (Or.inl rfl) (pe_op op_add (pe_op op_add (pv 1) pe_int) (pe_call (ok_read_length T) (hr.mono (by decide)) (by rfl) T.g_read_length T.F_read_length.kp T.b_read_length .nil pass0 (pa_cons (pv 0) (pa_cons (pv 1) (pa_cons (pv 2) pa_nil))))))
      (pss_cons (ps_set (i := 4) sc_read_comments.nd rfl (Or.inl rfl) (pe_call (ok_read_utf8 T) (hr.mono (by decide)) (by rfl) T.g_read_utf8 T.F_read_utf8.kp T.b_read_utf8 .nil pass0 (pa_cons (pv 0) (pa_cons (pe_op op_add (pv 1) pe_int) (pa_cons (pv 3) pa_nil)))))
      (pss_cons (ps_expr (pe_call (ok_check_inside T) (hr.mono (by decide)) (by rfl) T.g_check_inside T.F_check_inside.kp T.b_check_inside .nil pass0 (pa_cons (pv 3) (pa_cons pe_int (pa_cons (pv 2) pa_nil)))))
      (pss_cons (ps_set (i := 5) sc_read_comments.nd rfl (Or.inl rfl) (pe_call (ok_little_number T) (hr.mono (by decide)) (by rfl) T.g_little_number T.F_little_number.kp T.b_little_number .nil pass0 (pa_cons (pv 0) (pa_cons (pv 3) (pa_cons pe_int pa_nil)))))
      (pss_cons (ps_aug (i := 3) sc_read_comments.nd rfl (Or.inl rfl) pe_int ip_add)
      (pss_cons (ps_set (i := 6) sc_read_comments.nd rfl (Or.inl rfl) (pe_lst pa_nil))
      (pss_cons (ps_for PassesOwn.never rfl (pi_range1 (by rfl) T.m_range (pa_cons (pv 5) pa_nil)) (pg_name (i := 7) sc_read_comments.nd rfl (Or.inl rfl)) (pss_cons (ps_set (i := 8) sc_read_comments.nd rfl (Or.inl rfl) (pe_op op_add (pe_op op_add (pv 3) pe_int) (pe_call (ok_read_length T) (hr.mono (by decide)) (by rfl) T.g_read_length T.F_read_length.kp T.b_read_length .nil pass0 (pa_cons (pv 0) (pa_cons (pv 3) (pa_cons (pv 2) pa_nil))))))
        (pss_cons (ps_expr (pe_bm PySem.F.plainAttrs_list PySem.F.slot_list_append PySem.F.type_list_append mt_append (pv 6) (pa_cons (pe_call (ok_read_entry T) (hr.mono (by decide)) (by rfl) T.g_read_entry T.F_read_entry.kp T.b_read_entry .nil pass0 (pa_cons (pv 0) (pa_cons (pv 3) (pa_cons (pv 8) pa_nil)))) pa_nil)))
        (pss_one (ps_set (i := 3) sc_read_comments.nd rfl (Or.inl rfl) (pv 8))))))
      (pss_cons (ps_if (pt_cmpR op_lt (pv 3) (pv 2) (nomark _)) (pss_one ps_never) pss_nil)
      (pss_one (ps_ret (pe_make T.M_Comments (ok_Comments_init T) (hr.mono (by decide)) (by rfl) T.g_Comments T.b_Comments_init .nil pass0 (pa_cons (pv 4) (pa_cons (pv 6) pa_nil))))))))))))), ?_⟩
  have hcl := cm_len vd l
  have hul := utfB_len vd
  obtain ⟨a1, ha1⟩ : ∃ a1, pre ++ lowN (utfB vd).length 4 = a1 := ⟨_, rfl⟩
  have ha1l : a1.length = pre.length + 4 := by rw [← ha1, List.length_append, lowN_len]
  obtain ⟨a2, ha2⟩ : ∃ a2, a1 ++ utfB vd = a2 := ⟨_, rfl⟩
  have ha2l : a2.length = pre.length + 4 + (utfB vd).length := by rw [← ha2, List.length_append, ha1l]
  obtain ⟨a3, ha3⟩ : ∃ a3, a2 ++ lowN l.length 4 = a3 := ⟨_, rfl⟩
  have ha3l : a3.length = pre.length + 8 + (utfB vd).length := by rw [← ha3, List.length_append, lowN_len, ha2l]; omega
  have w1 : pre ++ (cmB vd l ++ post) = pre ++ (lowN (utfB vd).length 4 ++ (utfB vd ++ (lowN l.length 4 ++ (entsB l ++ post)))) := by unfold cmB; simp only [List.append_assoc]
  have w2 : pre ++ (cmB vd l ++ post) = a1 ++ (utfB vd ++ (lowN l.length 4 ++ (entsB l ++ post))) := by rw [w1, ← ha1]; simp only [List.append_assoc]
  have w3 : pre ++ (cmB vd l ++ post) = a2 ++ (lowN l.length 4 ++ (entsB l ++ post)) := by rw [w2, ← ha2]; simp only [List.append_assoc]
  have w4 : pre ++ (cmB vd l ++ post) = a3 ++ (entsB l ++ post) := by rw [w3, ← ha3]; simp only [List.append_assoc]
  rw [hcl]
  refine q_asg (v := .int (a2.length : Int)) (Ev.is (ev_I0 (g := fun i j => .int (i + j)) (ev_I0 (g := fun i j => .int (i + j)) (ev_var rfl) ev_c) (ev_rln (n := (utfB vd).length) (Ev.s (ev_var rfl) hS) (ev_var rfl) (ev_var rfl) (by rw [w1]; exact has_low (by show _ < 4294967296; omega)) (by omega) (by omega))) (congrArg V.int (by omega))) fun H1 e1 => ?_
  refine q_asgL (xs := (cs vd).map V.int) (el_rutf (pre := a1) (ts := vd) (post := lowN l.length 4 ++ (entsB l ++ post)) (Ev.s (ev_var rfl) (by rw [← w2]; exact ex_l e1 hS)) (Ev.is (ev_I0 (g := fun i j => .int (i + j)) (ev_var rfl) ev_c) (congrArg V.int (by omega))) (Ev.is (ev_var rfl) (congrArg V.int (by omega))) (by omega) hv) fun pu H2 hpu e2 gu => ?_
  have e12 := e1.trans e2
  refine q_chk (b := 4) (ev_var rfl) ev_c (ev_var rfl) (by omega) fun H3 e3 => ?_
  refine q_asg (v := .int (l.length : Int)) (ev_lnum (m := 4) (Ev.s (ev_var rfl) (ex_l (e12.trans e3) hS)) (ev_var rfl) ev_c (by decide) (by rw [w3]; exact has_low (by show _ < 4294967296; omega)) (by show _ < 4294967296; omega)) fun H4 e4 => ?_
  refine q_aug (a := (a2.length : Int)) (b := 4) rfl ev_c fun H5 e5 => ?_
  refine q_asgL (xs := []) (el_lst ea_nil (by decide)) fun pl H6 hpl e6 gl => ?_
  have e26 := e3.trans (e4.trans (e5.trans e6))
  have e16 := e12.trans e26
  have hplH := fresh_back (e12.trans (e3.trans (e4.trans e5))) hpl
  have npu : pu ≠ pl := by
    rintro rfl
    rw [(e3.trans (e4.trans e5)) _ _ gu] at hpl
    cases hpl
  have h34 : (a2.length : Int) + 4 = (a3.length : Int) := by omega
  show tSeq _ _ _ [some (.ref p), some (.int (pre.length : Int)), some (.int ((pre.length + (8 + (utfB vd).length + (entsB l).length) : Nat) : Int)), some (.int ((a2.length : Int) + 4)), some (.ref pu), some (.int (l.length : Int)), some (.ref pl), none, none] _
  rw [h34]
  refine q_forR1 (n := (l.length : Int)) (ea_cons (ev_var rfl) ea_nil) (by omega) (fun i σ' H' => ∃ (as : List Addr) (z7 z8 : Option V), σ' = [some (.ref p), some (.int (pre.length : Int)), some (.int ((pre.length + (8 + (utfB vd).length + (entsB l).length) : Nat) : Int)), some (.int ((a3 ++ entsB (l.take i)).length : Int)), some (.ref pu), some (.int (l.length : Int)), some (.ref pl), z7, z8] ∧ Ex H H' ∧ H' pu = some (.lst ((cs vd).map V.int)) ∧ H' pl = some (.lst (as.map V.ref)) ∧ EnsN (fun b => b ≠ pl) H' as ((l.take i).map neI)) (fun H7 e7 => ⟨[], none, none, by rw [List.take_zero]; show _ = [_, _, _, some (V.int ((a3 ++ [] : List Nat).length : Int)), _, _, _, _, _]; rw [List.append_nil], e16.trans e7, (e26.trans e7) _ _ gu, e7 _ _ gl, EnsN.nil⟩) ?_ ?_
  · rintro i σ' H7 hi ⟨as, z7, z8, rfl, ex, gu7, gl7, hE⟩
    have hil : i < l.length := by omega
    have he : l[i]? = some (l[i]'hil) := List.getElem?_eq_getElem _
    obtain ⟨e, hee⟩ : ∃ e, l[i]'hil = e := ⟨_, rfl⟩
    rw [hee] at he
    have hO := hl e (List.mem_of_getElem? he)
    obtain ⟨b, hb⟩ : ∃ b, a3 ++ entsB (l.take i) = b := ⟨_, rfl⟩
    have hbl : b.length = a3.length + (entsB (l.take i)).length := by rw [← hb, List.length_append]
    have hle := entB_le he
    have hsp := entsB_split he
    have w5 : pre ++ (cmB vd l ++ post) = b ++ (entB e ++ (entsB (l.drop (i + 1)) ++ post)) := by rw [w4, ← hb, hsp]; simp only [List.append_assoc]
    have hS7 := ex_l ex hS
    rw [w5] at hS7
    have hel : (entB e).length = 4 + (oneB e).length := by unfold entB; rw [List.length_append, lowN_len]
    rw [hb]
    refine q_asg (v := .int ((b.length + (entB e).length : Nat) : Int)) (Ev.is (ev_I0 (g := fun i j => .int (i + j)) (ev_I0 (g := fun i j => .int (i + j)) (ev_var rfl) ev_c) (ev_rln (n := (oneB e).length) (Ev.s (ev_var rfl) hS7) (ev_var rfl) (ev_var rfl) (by unfold entB; rw [List.append_assoc]; exact has_low (by show _ < 4294967296; omega)) (by omega) (by omega))) (congrArg V.int (by omega))) fun H8 e8 => ?_
    refine q_appO (e8 _ _ gl7) (ev_var rfl) (ex_ren (ev_var rfl) (ex_l e8 hS7) (ev_var rfl) (ev_var rfl) hO (by omega)) (by rw [List.length_map, hE.1, List.length_map, List.length_take]; omega) fun v H9 e9 hv => ?_
    obtain ⟨T0, pn, pv, rfl, n0, n1, n2, g0, g1, g2⟩ := hv
    have e89 := e8.trans e9
    have ne : ∀ {b : Addr}, H8 b = none → b ≠ pl := fun h => ne_known h (by rw [e8 _ _ gl7]; exact fun z => nomatch z)
    refine s_asg (v := .int ((b.length + (entB e).length : Nat) : Int)) (ev_var rfl) fun H10 e10 => ⟨as ++ [T0], some (.int (i : Int)), some (.int ((b.length + (entB e).length : Nat) : Int)), ?_, (Ex.mut (ex.trans e89) hplH).trans e10, e10 _ _ (by rw [upd_ne npu]; exact e89 _ _ gu7), e10 _ _ (by rw [upd_same, List.map_append]; rfl), ?_⟩
    · rw [entsB_snoc he, ← List.append_assoc, hb, List.length_append]
      rfl
    · rw [take_at he, List.map_append]
      exact ((hE.kp ((Kp.ex e89).mut fun h => absurd rfl h)).snoc (ne n0) (by rw [upd_ne (ne n0)]; exact g0) (ne n1) (by rw [upd_ne (ne n1)]; exact g1) (ne n2) (by rw [upd_ne (ne n2)]; exact g2)).ex e10
  · rintro σ' H7 ⟨as, z7, z8, rfl, ex, gu7, gl7, hE⟩
    rw [show (l.length : Int).toNat = l.length from Int.toNat_natCast _, List.take_length] at *
    have hzl : (a3 ++ entsB l).length = pre.length + (8 + (utfB vd).length + (entsB l).length) := by rw [List.length_append]; omega
    rw [hzl]
    refine q_when (b := false) (et_is (et_test (ev_I0 (g := fun i j => .bl (decide (i < j))) (ev_var rfl) (ev_var rfl))) (decide_eq_false (by omega))) (fun h => by cases h) fun _ H8 e8 => ?_
    refine s_retN (en_cm T (ev_var rfl) (e8 _ _ gu7) (Ev.x (ev_var rfl) fun G eG => ⟨pl, as, rfl, (e8.trans eG) _ _ gl7, (hE.imp fun _ _ _ => trivial).ex (e8.trans eG)⟩) (by rw [List.length_map]; omega)) fun c H9 hc e9 hC => k c H9 (fresh_back (ex.trans e8) hc) (ex.trans (e8.trans e9)) (hC.imp fun b _ h => fresh_back (ex.trans e8) h)
/-! ### == -/
def CmOr (K : PySem.W.Frag) (C : Addr) (H : Hp) (y : V) (vd : List Int) (es : List En) (b : Bool) : Prop := (∃ (d : Addr) (vd' : List Int) (es' : List En), y = .ref d ∧ CmN (fun _ => True) C H d vd' es' ∧ b = (decide (vd = vd') && PyData.eqv (enD es) (enD es'))) ∨ (b = false ∧ ∃ t, (∀ H1, Ex H H1 → TyX K H1 y t) ∧ PySem.W.kitOne K t (.ref C) = some false)
def sp_ceq (K : PySem.W.Frag) (C : Addr) : Sp := fun vs H Q _ => ∃ (a : Addr) (y : V) (vd : List Int) (es : List En) (b : Bool), vs = [.ref a, y] ∧ CmN (fun _ => True) C H a vd es ∧ CmOr K C H y vd es b ∧ RetV (.bl b) H Q
theorem ok_Comments_eq (T : TX K mg) : FnOk P w K mg base CX0 1 T.a_Comments_eq T.d_Comments_eq ["self", "other"] (sp_ceq K T.C_Comments) := by
  refine T.F_Comments_eq.ok sc_Comments_eq (fun vs H Q E h => by obtain ⟨a, y, vd, es, b, rfl, _⟩ := h; rfl) (fun cdv A outer s H vs Q E hr h => ?_)
  obtain ⟨a, y, vd, es, b, rfl, hC, hy, k⟩ := h
  refine ⟨_, (pss_one (ps_ret (pe_and (pe_callB (r := rIsi K) call_isi (by rfl) T.m_isinstance PyProof.Rows.boot_isinstance (pa_cons (pv 1) (pa_cons (pe_glob (v := V.ref T.C_Comments) (by rfl) T.g_Comments rfl) pa_nil))) (pe_and (pe_cmpR (op_eqD (hu64 hr)) (pe_fld (pv 0) rfl) (pe_fld (pv 1) rfl) (nomark _)) (pe_one (pe_cmpR (op_eqD (hu64 hr)) (pe_fld (pv 0) rfl) (pe_fld (pv 1) rfl) (nomark _))))))), ?_⟩
  obtain ⟨dx, pv, pe, as, g0, g1, g2, hE⟩ := cm_get hC
  rcases hy with ⟨d, vd', es', rfl, hD, rfl⟩ | ⟨rfl, t, ht, hk⟩
  · obtain ⟨dx', pv', pe', as', g0', g1', g2', hE'⟩ := cm_get hD
    have f1 : EvD K (tFld K (tVar 0) "vendor") [some (.ref a), some (.ref d)] H (.list (vd.map PyData.int)) := EvD.of (ev_fld T.cl_Comments T.n_Comments_vendor (ev_var rfl) g0 rfl) (.lst (sq_of g1) (dp_ints _))
    have f2 : EvD K (tFld K (tVar 1) "vendor") [some (.ref a), some (.ref d)] H (.list (vd'.map PyData.int)) := EvD.of (ev_fld T.cl_Comments T.n_Comments_vendor (ev_var rfl) g0' rfl) (.lst (sq_of g1') (dp_ints _))
    have f3 : EvD K (tFld K (tVar 0) "entries") [some (.ref a), some (.ref d)] H (enD es) := EvD.of (ev_fld T.cl_Comments T.n_Comments_entries (ev_var rfl) g0 rfl) (.lst (sq_of g2) (dp_ens hE))
    have f4 : EvD K (tFld K (tVar 1) "entries") [some (.ref a), some (.ref d)] H (enD es') := EvD.of (ev_fld T.cl_Comments T.n_Comments_entries (ev_var rfl) g0' rfl) (.lst (sq_of g2') (dp_ens hE'))
    have hev : PyData.eqv (.list (vd.map PyData.int)) (.list (vd'.map PyData.int)) = decide (vd = vd') := by
      show PyData.eqvAll _ _ = _
      exact eqv_ints vd vd'
    refine s_ret (v := .bl (decide (vd = vd') && PyData.eqv (enD es) (enD es'))) (Ev.is (ev_andV (ev_isiO (ev_var rfl) (T.ty_Comments.ins T.cl_Comments g0') T.ki_Comments_Comments) fun _ => ev_andV (ev_eqDv f1 f2 (shaped_ints _) (shaped_ints _)) fun _ => ev_eqDv f3 f4 (shaped_en _) (shaped_en _)) (by rw [hev]; rfl)) fun H1 e1 => k.go e1
  · exact s_ret (v := .bl false) (Ev.is (ev_andV (b := false) (ev_isiO (ev_var rfl) ht hk) fun h => by cases h) rfl) fun H1 e1 => k.go e1

-- K50D
/-! ### the law's own bytes -/
theorem ok_law_utf8 (T : TX K mg) : FnOk P w K mg base CX0 1 T.a_law_utf8 T.d_law_utf8 ["text"] (sp_wutf K) := by
  refine T.F_law_utf8.ok sc_law_utf8 (fun vs H Q E h => by obtain ⟨a, ts, rfl, _⟩ := h; rfl) (fun cdv A outer s0 H vs Q E hr h => ?_)
  obtain ⟨a, ts, rfl, hS, hl, ht, k⟩ := h
  refine ⟨_, (pss_cons (ps_set (i := 1) sc_law_utf8.nd rfl (Or.inl rfl) (pe_lst pa_nil))
      (pss_cons (ps_for PassesOwn.never rfl (pi_list (pv 0)) (pg_name (i := 2) sc_law_utf8.nd rfl (Or.inl rfl)) (pss_cons (ps_set (i := 3) sc_law_utf8.nd rfl (Or.inl rfl) (pe_op op_add pe_int (pe_op op_and (pv 2) pe_int)))
        (pss_cons (ps_set (i := 4) sc_law_utf8.nd rfl (Or.inl rfl) (pe_op op_add pe_int (pe_op op_and (pe_op op_shr (pv 2) pe_int) pe_int)))
        (pss_one (ps_if (pt_cmpR op_lt (pv 2) pe_int (nomark _)) (pss_one (ps_expr (pe_bm PySem.F.plainAttrs_list PySem.F.slot_list_append PySem.F.type_list_append mt_append (pv 1) (pa_cons (pv 2) pa_nil)))) (pss_one (ps_if (pt_cmpR op_lt (pv 2) pe_int (nomark _)) (pss_one (ps_set (i := 1) sc_law_utf8.nd rfl (Or.inl rfl) (pe_op op_cat (pv 1) (pe_lst (pa_cons (pe_op op_add pe_int (pe_op op_shr (pv 2) pe_int)) (pa_cons (pv 3) pa_nil)))))) (pss_one (ps_if (pt_cmpR op_lt (pv 2) pe_int (nomark _)) (pss_one (ps_set (i := 1) sc_law_utf8.nd rfl (Or.inl rfl) (pe_op op_cat (pv 1) (pe_lst (pa_cons (pe_op op_add pe_int (pe_op op_shr (pv 2) pe_int)) (pa_cons (pv 4) (pa_cons (pv 3) pa_nil))))))) (pss_one (ps_set (i := 1) sc_law_utf8.nd rfl (Or.inl rfl) (pe_op op_cat (pv 1) (pe_lst (pa_cons (pe_op op_add pe_int (pe_op op_shr (pv 2) pe_int)) (pa_cons (pe_op op_add pe_int (pe_op op_and (pe_op op_shr (pv 2) pe_int) pe_int)) (pa_cons (pv 4) (pa_cons (pv 3) pa_nil)))))))))))))))))
      (pss_one (ps_ret (pv 1))))), ?_⟩
  refine q_asgL (xs := []) (el_lst ea_nil (by decide)) fun q H1 hq e1 g1 => ?_
  show tSeq _ _ _ [some (.ref a), some (.ref q), none, none, none] _
  refine q_forLn (K := K) (a := a) (ev_var rfl) (ex_l e1 hS) (fun i σ' H' => ∃ (q : Addr) (z2 z3 z4 : Option V), σ' = [some (.ref a), some (.ref q), z2, z3, z4] ∧ Ex H H' ∧ H q = none ∧ H' q = some (.lst ((cs (utfB (ts.take i))).map V.int))) (fun H2 e2 => ⟨q, none, none, none, rfl, e1.trans e2, hq, e2 _ _ g1⟩) (fun i σ' H' _ h => by obtain ⟨_, _, _, _, _, ex, _⟩ := h; exact ex_l ex hS) ?_ ?_
  · rintro i x σ' H2 hx ⟨q, z2, z3, z4, rfl, ex, hq, gq⟩
    obtain ⟨p, hp, hi, rfl⟩ := cs_get hx
    have hlt := ht p (List.mem_of_getElem? hp)
    have h1 := utfB_len (ts.take i)
    have h2 := ptN_bd p
    have hsn := utfB_snoc hp
    rw [List.length_take] at h1
    have s6 : ∀ {σ : L2.St} {H' : Hp} (j : Nat), σ[2]? = some (some (.int (p : Int))) → Ev (tOp (rI (fun _ j => 0 ≤ j) fun i j => .int (i / 2 ^ j.toNat)) (tVar 2) (tC (.int (j : Int)))) σ H' (.int ((p / 2 ^ j : Nat) : Int)) := fun j h => ev_shrN (ev_var h) ev_c
    refine q_asg (v := .int ((128 + p % 64 : Nat) : Int)) (Ev.is (ev_I0 ev_c (ev_and63 (ev_var rfl))) (congrArg V.int (by omega))) fun H3 e3 => ?_
    refine q_asg (v := .int ((128 + p / 64 % 64 : Nat) : Int)) (Ev.is (ev_I0 ev_c (ev_and63 (s6 6 rfl))) (congrArg V.int (by rw [show (2 : Nat) ^ 6 = 64 from rfl]; omega))) fun H4 e4 => ?_
    have e24 := e3.trans e4
    show tIfS _ _ _ _ [some (.ref a), some (.ref q), some (.int (p : Int)), some (.int ((128 + p % 64 : Nat) : Int)), some (.int ((128 + p / 64 % 64 : Nat) : Int))] _
    have fin : ∀ {te : TE} {bs : List Nat} {H5 : Hp} {D : Ends}, Ex H4 H5 → bs = ptB p → D.nx = (fun σ' H' => ∃ (q : Addr) (z2 z3 z4 : Option V), σ' = [some (.ref a), some (.ref q), z2, z3, z4] ∧ Ex H H' ∧ H q = none ∧ H' q = some (.lst ((cs (utfB (ts.take (i + 1)))).map V.int))) → EvL te [some (.ref a), some (.ref q), some (.int (p : Int)), some (.int ((128 + p % 64 : Nat) : Int)), some (.int ((128 + p / 64 % 64 : Nat) : Int))] H5 ((cs bs).map V.int) → tAsg (tOp rCat (tVar 1) te) (gName 1) D [some (.ref a), some (.ref q), some (.int (p : Int)), some (.int ((128 + p % 64 : Nat) : Int)), some (.int ((128 + p / 64 % 64 : Nat) : Int))] H5 := fun {te bs H5 D} e5 hb hD h => by
      have hbl := ptB_len p
      refine s_asgL (xs := (cs (utfB (ts.take i) ++ bs)).map V.int) (EvL.is (el_cat (Ev.r (ev_var rfl) ((e24.trans e5) _ _ gq)) (EvL.r h) (by rw [List.length_map, cs_len, List.length_map, cs_len, hb]; omega)) (by rw [map_cs2])) fun r H6 hr e6 g6 => ?_
      rw [hD]
      have e26 := ex.trans (e24.trans (e5.trans e6))
      exact ⟨r, _, _, _, rfl, e26, fresh_back (ex.trans (e24.trans e5)) hr, by rw [g6, hsn, hb]⟩
    refine s_if (b := decide (p < 128)) (et_is (et_test (ev_I0 (ev_var rfl) ev_c)) (decide_eq_decide.mpr (by omega))) (fun h H5 e5 => ?_) (fun h H5 e5 => ?_)
    · refine s_app (v := .int (p : Int)) ((e24.trans e5) _ _ gq) (ev_var rfl) (ev_var rfl) (by rw [List.length_map, cs_len]; omega) fun H6 e6 => ⟨q, _, _, _, rfl, Ex.mut (ex.trans (e24.trans (e5.trans e6))) hq, hq, ?_⟩
      rw [upd_same, hsn, cs_append, List.map_append]
      unfold ptB
      rw [if_pos (of_decide_eq_true h)]
      rfl
    have h128 := of_decide_eq_false h
    refine s_if (b := decide (p < 2048)) (et_is (et_test (ev_I0 (ev_var rfl) ev_c)) (decide_eq_decide.mpr (by omega))) (fun h H6 e6 => ?_) (fun h H6 e6 => ?_)
    · refine fin (bs := [192 + p / 64, 128 + p % 64]) (e5.trans e6) (by unfold ptB; rw [if_neg h128, if_pos (of_decide_eq_true h)]) rfl (EvL.is (el_lst (ea_cons (Ev.is (ev_I0 ev_c (s6 6 rfl)) (congrArg V.int (show _ = ((192 + p / 64 : Nat) : Int) by rw [show (2 : Nat) ^ 6 = 64 from rfl]; omega))) (ea_cons (ev_var rfl) ea_nil)) (Nat.le_of_ble_eq_true rfl)) rfl)
    have h2048 := of_decide_eq_false h
    refine s_if (b := decide (p < 65536)) (et_is (et_test (ev_I0 (ev_var rfl) ev_c)) (decide_eq_decide.mpr (by omega))) (fun h H7 e7 => ?_) (fun h H7 e7 => ?_)
    · refine fin (bs := [224 + p / 4096, 128 + p / 64 % 64, 128 + p % 64]) (e5.trans (e6.trans e7)) (by unfold ptB; rw [if_neg h128, if_neg h2048, if_pos (of_decide_eq_true h)]) rfl (EvL.is (el_lst (ea_cons (Ev.is (ev_I0 ev_c (s6 12 rfl)) (congrArg V.int (show _ = ((224 + p / 4096 : Nat) : Int) by rw [show (2 : Nat) ^ 12 = 4096 from rfl]; omega))) (ea_cons (ev_var rfl) (ea_cons (ev_var rfl) ea_nil))) (Nat.le_of_ble_eq_true rfl)) rfl)
    · refine fin (bs := [240 + p / 262144, 128 + p / 4096 % 64, 128 + p / 64 % 64, 128 + p % 64]) (e5.trans (e6.trans e7)) (by unfold ptB; rw [if_neg h128, if_neg h2048, if_neg (of_decide_eq_false h)]) rfl (EvL.is (el_lst (ea_cons (Ev.is (ev_I0 ev_c (s6 18 rfl)) (congrArg V.int (show _ = ((240 + p / 262144 : Nat) : Int) by rw [show (2 : Nat) ^ 18 = 262144 from rfl]; omega))) (ea_cons (Ev.is (ev_I0 ev_c (ev_and63 (s6 12 rfl))) (congrArg V.int (show _ = ((128 + p / 4096 % 64 : Nat) : Int) by rw [show (2 : Nat) ^ 12 = 4096 from rfl]; omega))) (ea_cons (ev_var rfl) (ea_cons (ev_var rfl) ea_nil)))) (Nat.le_of_ble_eq_true rfl)) rfl)
  · rintro σ' H2 ⟨q, z2, z3, z4, rfl, ex, hq, gq⟩
    rw [List.length_map, cs_len, List.take_length] at gq
    exact s_ret (v := .ref q) (ev_var rfl) fun H3 e3 => k q H3 hq (ex.trans e3) (e3 _ _ gq)
def sp_llit : Sp := fun vs H Q _ => ∃ n : Nat, vs = [.int (n : Int)] ∧ n < 4294967296 ∧ RetL ((cs (lowN n 4)).map V.int) H Q
theorem lowN4 {n : Nat} (h : n < 4294967296) : lowN n 4 = [n % 256, n / 2 ^ 8 % 256, n / 2 ^ 16 % 256, n / 2 ^ 24] := by
  show [n / 1 % 256, n / 256 % 256, n / 65536 % 256, n / 16777216 % 256] = [n % 256, n / 256 % 256, n / 65536 % 256, n / 16777216]
  have h1 : n / 1 = n := Nat.div_one n
  have h2 : n / 16777216 % 256 = n / 16777216 := Nat.mod_eq_of_lt (by omega)
  rw [h1, h2]
theorem ok_law_little (T : TX K mg) : FnOk P w K mg base CX0 1 T.a_law_little T.d_law_little ["number"] sp_llit := by
  refine T.F_law_little.ok sc_law_little (fun vs H Q E h => by obtain ⟨n, rfl, _⟩ := h; rfl) (fun cdv A outer s0 H vs Q E hr h => ?_)
  obtain ⟨n, rfl, hn, k⟩ := h
  refine ⟨_, (pss_one (ps_ret (pe_lst (pa_cons (pe_op op_and (pv 0) pe_int) (pa_cons (pe_op op_and (pe_op op_shr (pv 0) pe_int) pe_int) (pa_cons (pe_op op_and (pe_op op_shr (pv 0) pe_int) pe_int) (pa_cons (pe_op op_shr (pv 0) pe_int) pa_nil))))))), ?_⟩
  have s6 : ∀ {σ : L2.St} {H' : Hp} (j : Nat), σ[0]? = some (some (.int (n : Int))) → Ev (tOp (rI (fun _ j => 0 ≤ j) fun i j => .int (i / 2 ^ j.toNat)) (tVar 0) (tC (.int (j : Int)))) σ H' (.int ((n / 2 ^ j : Nat) : Int)) := fun j h => ev_shrN (ev_var h) ev_c
  have m8 : ∀ {σ : L2.St} {H' : Hp} {te : TE} {x : Nat}, Ev te σ H' (.int (x : Int)) → Ev (tOp (rI0 fun i j => .int (Builtin.bitAnd i j)) te (tC (.int 255))) σ H' (.int ((x % 256 : Nat) : Int)) := fun h => Ev.is (ev_I0 h ev_c) (congrArg V.int (and_mask255 _))
  exact s_retL (EvL.is (el_lst (ea_cons (m8 (ev_var rfl)) (ea_cons (m8 (s6 8 rfl)) (ea_cons (m8 (s6 16 rfl)) (ea_cons (s6 24 rfl) ea_nil)))) (Nat.le_of_ble_eq_true rfl)) (by rw [lowN4 hn]; rfl)) k
theorem el_llit {σ : L2.St} {H : Hp} {te : TE} {E : XK} {n : Nat} (h : Ev te σ H (.int (n : Int))) (hn : n < 4294967296) : EvL (tCall sp_llit [] E (tCons te tNil)) σ H ((cs (lowN n 4)).map V.int) := el_call (ea_cons h ea_nil) fun H1 _ Q q _ => ⟨n, rfl, hn, q⟩
def sp_lcb : Sp := fun vs H Q _ => ∃ (wv pe : Addr) (as : List Addr) (vd : List Nat) (l : List Ne), vs = [.ref wv, .ref pe] ∧ H wv = some (.lst ((cs vd).map V.int)) ∧ H pe = some (.lst (as.map V.ref)) ∧ EnsN (fun _ => True) H as (l.map neI) ∧ CmOk vd l ∧ RetL ((cs (cmB vd l)).map V.int) H Q
theorem ok_law_comment_bytes (T : TX K mg) : FnOk P w K mg base CX0 2 T.a_law_comment_bytes T.d_law_comment_bytes ["vendor", "entries"] sp_lcb := by
  refine T.F_law_comment_bytes.ok sc_law_comment_bytes (fun vs H Q E h => by obtain ⟨wv, pe, as, vd, l, rfl, _⟩ := h; rfl) (fun cdv A outer s0 H vs Q E hr h => ?_)
  obtain ⟨wv, pe, as, vd, l, rfl, gv, ge, hE, ⟨hv, hvl, hl, hll, htot⟩, k⟩ := h
  refine ⟨_, (pss_cons (ps_set (i := 2) sc_law_comment_bytes.nd rfl (Or.inl rfl) (pe_call (ok_law_utf8 T) (hr.mono (by decide)) (by rfl) T.g_law_utf8 T.F_law_utf8.kp T.b_law_utf8 .nil pass0 (pa_cons (pv 0) pa_nil)))
      (pss_cons (ps_set (i := 3) sc_law_comment_bytes.nd rfl (Or.inl rfl) (pe_op op_cat (pe_op op_cat (pe_call (ok_law_little T) (hr.mono (by decide)) (by rfl) T.g_law_little T.F_law_little.kp T.b_law_little .nil pass0 (pa_cons (pe_callB (r := rLenS K) call_len_seq (by rfl) T.m_len PySem.boot_len (pa_cons (pv 2) pa_nil)) pa_nil)) (pv 2)) (pe_call (ok_law_little T) (hr.mono (by decide)) (by rfl) T.g_law_little T.F_law_little.kp T.b_law_little .nil pass0 (pa_cons (pe_callB (r := rLenS K) call_len_seq (by rfl) T.m_len PySem.boot_len (pa_cons (pv 1) pa_nil)) pa_nil))))
      (pss_cons (ps_for PassesOwn.never rfl (pi_list (pv 1)) (pg_name (i := 4) sc_law_comment_bytes.nd rfl (Or.inl rfl)) (pss_cons (ps_set (i := 5) sc_law_comment_bytes.nd rfl (Or.inl rfl) (pe_op op_cat (pe_op op_cat (pe_ix (r := rIxT K) ix_tup (pv 4) pe_int (fun _ _ => rfl)) (pe_lst (pa_cons pe_int pa_nil))) (pe_call (ok_law_utf8 T) (hr.mono (by decide)) (by rfl) T.g_law_utf8 T.F_law_utf8.kp T.b_law_utf8 .nil pass0 (pa_cons (pe_ix (r := rIxT K) ix_tup (pv 4) pe_int (fun _ _ => rfl)) pa_nil))))
        (pss_one (ps_set (i := 3) sc_law_comment_bytes.nd rfl (Or.inl rfl) (pe_op op_cat (pe_op op_cat (pv 3) (pe_call (ok_law_little T) (hr.mono (by decide)) (by rfl) T.g_law_little T.F_law_little.kp T.b_law_little .nil pass0 (pa_cons (pe_callB (r := rLenS K) call_len_seq (by rfl) T.m_len PySem.boot_len (pa_cons (pv 5) pa_nil)) pa_nil))) (pv 5))))))
      (pss_one (ps_ret (pv 3)))))), ?_⟩
  have hcl := cm_len vd l
  refine q_asgL (el_wutf (ts := vd) (Ev.s (ev_var rfl) (sq_of gv)) (by omega) (pt_lt hv)) fun pu H1 hpu e1 gu => ?_
  obtain ⟨D0, hD0⟩ : ∃ D0, lowN (utfB vd).length 4 ++ (utfB vd ++ lowN l.length 4) = D0 := ⟨_, rfl⟩
  have hD0l : D0.length = 8 + (utfB vd).length := by rw [← hD0, List.length_append, List.length_append, lowN_len, lowN_len]; omega
  refine q_asgL (xs := (cs D0).map V.int) (EvL.is (el_cat (EvL.r (el_cat (EvL.r (el_llit (Ev.is (ev_lenS (K := K) (Ev.s (ev_var rfl) (sq_of gu))) (by rw [List.length_map, cs_len])) (by omega))) (Ev.r (ev_var rfl) gu) (by rw [List.length_map, cs_len, lowN_len, List.length_map, cs_len]; omega))) (EvL.r (el_llit (n := l.length) (Ev.is (ev_lenS (K := K) (Ev.s (ev_var rfl) (sq_of (e1 _ _ ge)))) (by rw [List.length_map, hE.1, List.length_map])) (by omega))) (by rw [List.length_append, List.length_map, cs_len, lowN_len, List.length_map, cs_len, List.length_map, cs_len, lowN_len]; omega)) (by rw [map_cs2, map_cs2, ← hD0, List.append_assoc])) fun pd H2 hpd e2 gd => ?_
  have e12 := e1.trans e2
  have hpdH := fresh_back e1 hpd
  have hwhole : cmB vd l = D0 ++ entsB l := by unfold cmB; rw [hD0]
  rw [hwhole] at k
  show tSeq _ _ _ [some (.ref wv), some (.ref pe), some (.ref pu), some (.ref pd), none, none] _
  refine q_forLn (K := K) (a := pe) (xs := as.map V.ref) (ev_var rfl) (sq_of (e12 _ _ ge)) (fun i σ' H' => ∃ (q : Addr) (z4 z5 : Option V), σ' = [some (.ref wv), some (.ref pe), some (.ref pu), some (.ref q), z4, z5] ∧ Ex H H' ∧ H q = none ∧ H' q = some (.lst ((cs (D0 ++ entsB (l.take i))).map V.int))) (fun H3 e3 => ⟨pd, none, none, rfl, e12.trans e3, hpdH, by rw [List.take_zero]; show _ = some (HO.lst ((cs (D0 ++ [])).map V.int)); rw [List.append_nil]; exact e3 _ _ gd⟩) (fun i σ' H' _ h => by obtain ⟨_, _, _, _, ex, _⟩ := h; exact sq_of (ex _ _ ge)) ?_ ?_
  · rintro i x σ' H3 hx ⟨q, z4, z5, rfl, ex, hq, gq⟩
    obtain ⟨ai, e, hai, hei, rfl, hi, _, pn, pw, q0, _, q1, _, q2⟩ := hE.get hx
    obtain ⟨e', he', rfl⟩ := ne_at hei
    obtain ⟨h1, h2, h3, h4, h5⟩ := hl e' (List.mem_of_getElem? he')
    have hle := entB_le he'
    have hel : (entB e').length = 4 + (oneB e').length := by unfold entB; rw [List.length_append, lowN_len]
    have hol : (oneB e').length = e'.1.length + 1 + (utfB e'.2).length := by unfold oneB; rw [List.length_append, List.length_cons]; omega
    refine q_asgL (xs := (cs (oneB e')).map V.int) (EvL.is (el_cat (EvL.r (el_cat (xs := (cs e'.1).map V.int) (Ev.r (ev_atT (K := K) (n := 0) (v := .ref pn) (ev_var rfl) (st_of (ex _ _ q0)) ev_c (at_of (j := 0) rfl rfl)) (ex _ _ q1)) (EvL.r (EvL.is (el_lst (ea_cons ev_c ea_nil) (by decide)) (show _ = (cs [61]).map V.int from rfl))) (by rw [List.length_map, cs_len]; show _ + 1 ≤ _; omega))) (EvL.r (el_wutf (ts := e'.2) (Ev.s (ev_atT (K := K) (n := 1) (v := .ref pw) (ev_var rfl) (st_of (ex _ _ q0)) ev_c (at_of (j := 1) rfl rfl)) (sq_of (ex _ _ q2))) (by omega) (pt_lt h3))) (by rw [List.length_append, List.length_map, cs_len, List.length_map, cs_len, List.length_map, cs_len]; show _ + 1 + _ ≤ _; omega)) (by rw [map_cs2, map_cs2]; unfold oneB; rw [List.append_assoc]; rfl)) fun po H4 hpo e4 go => ?_
    refine s_asgL (xs := (cs (D0 ++ entsB (l.take (i + 1)))).map V.int) (EvL.is (el_cat (EvL.r (el_cat (Ev.r (ev_var rfl) (e4 _ _ gq)) (EvL.r (el_llit (n := (oneB e').length) (Ev.is (ev_lenS (K := K) (Ev.s (ev_var rfl) (sq_of go))) (by rw [List.length_map, cs_len])) (by omega))) (by rw [List.length_map, cs_len, List.length_append, List.length_map, cs_len, lowN_len]; omega))) (Ev.r (ev_var rfl) go) (by rw [List.length_append, List.length_map, cs_len, List.length_append, List.length_map, cs_len, lowN_len, List.length_map, cs_len]; omega)) (by rw [map_cs2, map_cs2, entsB_snoc he']; unfold entB; simp only [List.append_assoc])) fun r H5 hr e5 g5 => ⟨r, _, _, rfl, ex.trans (e4.trans e5), fresh_back (ex.trans e4) hr, g5⟩
  · rintro σ' H3 ⟨q, z4, z5, rfl, ex, hq, gq⟩
    rw [List.length_map, hE.1, List.length_map, List.take_length] at gq
    exact s_ret (ev_var rfl) fun H4 e4 => k q H4 hq (ex.trans e4) (e4 _ _ gq)
theorem ev_isiT {σ : L2.St} {H : Hp} {ta : TE} {a : Addr} {xs : List V} (ha : Ev ta σ H (.ref a)) (h : H a = some (.tup xs)) : Ev (tCB (rIsi K) (tCons ta (tCons (tC (.ty "tuple")) tNil))) σ H (.bl true) := ev_isi ha (isi_tup h) kit_tt
theorem ev_lenT {σ : L2.St} {H : Hp} {ta : TE} {a : Addr} {xs : List V} (ha : Ev ta σ H (.ref a)) (h : H a = some (.tup xs)) : Ev (tCB (rLenS K) (tCons ta tNil)) σ H (.int (xs.length : Int)) := fun H1 e Q q =>
  ha H1 e _ fun H2 e2 => ⟨a, xs, rfl, .inr (st_of ((e.trans e2) _ _ h)), q H2 e2⟩
def sp_lsm (C : Addr) : Sp := fun vs H Q _ => ∃ (c wv pe : Addr) (as : List Addr) (vd : List Int) (es : List En), vs = [.ref c, .ref wv, .ref pe] ∧ CmN (fun _ => True) C H c vd es ∧ H wv = some (.lst (vd.map V.int)) ∧ H pe = some (.lst (as.map V.ref)) ∧ EnsN (fun _ => True) H as es ∧ (∀ e ∈ es, e.1.length ≤ 1000 ∧ e.2.length ≤ 1000) ∧ RetV (.bl true) H Q
theorem ok_law_same (T : TX K mg) : FnOk P w K mg base CX0 2 T.a_law_same T.d_law_same ["actual", "vendor", "entries"] (sp_lsm T.C_Comments) := by
  refine T.F_law_same.ok sc_law_same (fun vs H Q E h => by obtain ⟨c, wv, pe, as, vd, es, rfl, _⟩ := h; rfl) (fun cdv A outer s0 H vs Q E hr h => ?_)
  obtain ⟨c, wv, pe, as, vd, es, rfl, hC, gv, ge, hE, hb, k⟩ := h
  refine ⟨_, (pss_cons (ps_if (PW.pt (pw_or (pt_not (pt_val (pe_callB (r := rIsi K) call_isi (by rfl) T.m_isinstance PyProof.Rows.boot_isinstance (pa_cons (pe_fld (pv 0) rfl) (pa_cons (pe_bltn (v := V.ty "list") (by rfl) T.m_list PyProof.Rows.boot_list rfl) pa_nil))))) (pw_or (pt_cmpR (op_neD (hu64 hr)) (pe_fld (pv 0) rfl) (pv 1) (nomark _)) (pw_or1 (pt_not (pt_val (pe_callB (r := rIsi K) call_isi (by rfl) T.m_isinstance PyProof.Rows.boot_isinstance (pa_cons (pe_fld (pv 0) rfl) (pa_cons (pe_bltn (v := V.ty "list") (by rfl) T.m_list PyProof.Rows.boot_list rfl) pa_nil))))))))) (pss_one (ps_ret pe_bl)) pss_nil)
      (pss_cons (ps_for PassesOwn.never rfl (pi_list (pe_fld (pv 0) rfl)) (pg_name (i := 3) sc_law_same.nd rfl (Or.inl rfl)) (pss_cons (ps_if (PW.pt (pw_or (pt_not (pt_val (pe_callB (r := rIsi K) call_isi (by rfl) T.m_isinstance PyProof.Rows.boot_isinstance (pa_cons (pv 3) (pa_cons (pe_bltn (v := V.ty "tuple") (by rfl) T.m_tuple PyProof.Rows.boot_tuple rfl) pa_nil))))) (pw_or (pt_cmpR op_ne (pe_callB (r := rLenS K) call_len_seq (by rfl) T.m_len PySem.boot_len (pa_cons (pv 3) pa_nil)) pe_int (nomark _)) (pw_or1 (pt_not (pt_val (pe_callB (r := rIsi K) call_isi (by rfl) T.m_isinstance PyProof.Rows.boot_isinstance (pa_cons (pe_ix (r := rIxT K) ix_tup (pv 3) pe_int (fun _ _ => rfl)) (pa_cons (pe_bltn (v := V.ty "list") (by rfl) T.m_list PyProof.Rows.boot_list rfl) pa_nil))))))))) (pss_one (ps_ret pe_bl)) pss_nil)
        (pss_one (ps_if (PW.pt (pw_or (pt_not (pt_val (pe_callB (r := rIsi K) call_isi (by rfl) T.m_isinstance PyProof.Rows.boot_isinstance (pa_cons (pe_ix (r := rIxT K) ix_tup (pv 3) pe_int (fun _ _ => rfl)) (pa_cons (pe_bltn (v := V.ty "list") (by rfl) T.m_list PyProof.Rows.boot_list rfl) pa_nil))))) (pw_or1 (pt_not (pt_val (pe_callB (r := rAll K) (cr_all rfl) (by rfl) T.m_all PyProof.Rows.boot_all (pa_cons (pe_lc (own := [("point", 4)]) (g := gName 4) (tt := tYes) rfl sc_law_same.nd (pi_list (pe_op op_cat (pe_ix (r := rIxT K) ix_tup (pv 3) pe_int (fun _ _ => rfl)) (pe_ix (r := rIxT K) ix_tup (pv 3) pe_int (fun _ _ => rfl)))) (blkOk_by (N := ["actual", "vendor", "entries", "one", "point"]) (sc := defScope s_law_same) (by decide +kernel)) (fun _ _ _ _ _ => pg_name (i := 4) sc_law_same.nd rfl (Or.inl rfl)) (fun _ _ _ _ _ => pts_nil) (fun _ _ _ _ _ => (pe_call (ok_law_is_integer T) (hr.mono (by decide)) (by rfl) T.g_law_is_integer T.F_law_is_integer.kp T.b_law_is_integer .nil pass0 (pa_cons (pv 4) pa_nil)))) pa_nil))))))) (pss_one (ps_ret pe_bl)) pss_nil))))
      (pss_one (ps_ret (pe_cmpR (op_eqD (hu64 hr)) (pe_fld (pv 0) rfl) (pv 2) (nomark _)))))), ?_⟩
  obtain ⟨dx, qv, qe, bs, g0, g1, g2, hF⟩ := cm_get hC
  refine q_when (b := false) (et_is (et_or (a := false) (b := false) (et_is (et_not (et_B (ev_isiL (ev_fld T.cl_Comments T.n_Comments_vendor (ev_var rfl) g0 rfl) g1))) rfl) fun _ => et_or (a := false) (b := false) (et_is (et_test (ev_neI (K := K) (Ev.s (ev_fld T.cl_Comments T.n_Comments_vendor (ev_var rfl) g0 rfl) (sq_of g1)) (Ev.s (ev_var rfl) (sq_of gv)))) (by rw [decide_eq_true rfl]; rfl)) fun _ => et_is (et_not (et_B (ev_isiL (ev_fld T.cl_Comments T.n_Comments_entries (ev_var rfl) g0 rfl) g2))) rfl) rfl) (fun h => by cases h) fun _ H1 e1 => ?_
  show tSeq _ _ _ [some (.ref c), some (.ref wv), some (.ref pe), none, none] _
  refine q_forLn (K := K) (a := qe) (xs := bs.map V.ref) (ev_fld T.cl_Comments T.n_Comments_entries (ev_var rfl) (e1 _ _ g0) rfl) (sq_of (e1 _ _ g2)) (fun i σ' H' => ∃ (z3 : Option V), σ' = [some (.ref c), some (.ref wv), some (.ref pe), z3, none] ∧ Ex H H') (fun H3 e3 => ⟨none, rfl, e1.trans e3⟩) (fun i σ' H' _ h => by obtain ⟨_, _, ex⟩ := h; exact sq_of (ex _ _ g2)) ?_ ?_
  · rintro i x σ' H3 hx ⟨z3, rfl, ex⟩
    obtain ⟨ai, e, hai, hei, rfl, hi, _, pn, pw, q0, _, q1, _, q2⟩ := hF.get hx
    have hbe := hb e (List.mem_of_getElem? hei)
    have at0 : ∀ {G : Hp}, Ex H G → Ev (tOp (rIxT K) (tVar 3) (tC (.int 0))) [some (.ref c), some (.ref wv), some (.ref pe), some (.ref ai), none] G (.ref pn) := fun e => ev_atT (K := K) (n := 0) (v := .ref pn) (ev_var rfl) (st_of (e _ _ q0)) ev_c (at_of (j := 0) rfl rfl)
    have at1 : ∀ {G : Hp}, Ex H G → Ev (tOp (rIxT K) (tVar 3) (tC (.int 1))) [some (.ref c), some (.ref wv), some (.ref pe), some (.ref ai), none] G (.ref pw) := fun e => ev_atT (K := K) (n := 1) (v := .ref pw) (ev_var rfl) (st_of (e _ _ q0)) ev_c (at_of (j := 1) rfl rfl)
    show tSeq _ _ _ [some (.ref c), some (.ref wv), some (.ref pe), some (.ref ai), none] _
    refine q_when (b := false) (et_is (et_or (a := false) (b := false) (et_is (et_not (et_B (ev_isiT (ev_var rfl) (ex _ _ q0)))) rfl) fun _ => et_or (a := false) (b := false) (et_is (et_test (ev_ne (x := .int 2) (y := .int 2) (ev_lenT (K := K) (ev_var rfl) (ex _ _ q0)) ev_c rfl)) (by decide)) fun _ => et_is (et_not (et_B (ev_isiL (at0 ex) (ex _ _ q1)))) rfl) rfl) (fun h => by cases h) fun _ H4 e4 => ?_
    have ex4 := ex.trans e4
    have hall : ∀ {E : XK}, Ev (tCB (rAll K) (tCons (tLc (iList K (tOp rCat (tOp (rIxT K) (tVar 3) (tC (.int 0))) (tOp (rIxT K) (tVar 3) (tC (.int 1))))) (gName 4) tYes (tCall sp_isint [] E (tCons (tVar 4) tNil)) [4]) tNil)) [some (.ref c), some (.ref wv), some (.ref pe), some (.ref ai), none] H4 (.bl true) := fun {E} => by
      refine ev_all (bs := (e.1 ++ e.2).map fun _ => true) (EvR.s (EvL.r (EvL.is (xs := (e.1 ++ e.2).map fun _ => V.bl true) (el_lcS (xs := (e.1 ++ e.2).map V.int) _ (EvR.s (EvL.r (EvL.is (el_cat (Ev.r (at0 ex4) (ex4 _ _ q1)) (Ev.r (at1 ex4) (ex4 _ _ q2)) (by rw [List.length_map, List.length_map]; omega)) (by rw [List.map_append])))) (by rw [List.length_map, List.length_map]) (by rw [List.length_map, List.length_append]; omega) (fun _ => rfl) fun i x H5 e5 hx => ?_) (by rw [List.map_map]; rfl)))) (by simp)
      obtain ⟨n, hn, hi, rfl⟩ := int_at hx
      exact ⟨.bl true, by rw [List.getElem?_map, hn]; rfl, ev_isint (ev_var rfl)⟩
    exact s_when (b := false) (et_is (et_or (a := false) (b := false) (et_is (et_not (et_B (ev_isiL (at1 ex4) (ex4 _ _ q2)))) rfl) fun _ => et_is (et_not (et_B hall)) rfl) rfl) (fun h => by cases h) fun _ H5 e5 => ⟨_, rfl, ex4.trans e5⟩
  · rintro σ' H3 ⟨z3, rfl, ex⟩
    exact s_ret (v := .bl true) (ev_eqDD (d := enD es) (EvD.of (ev_fld T.cl_Comments T.n_Comments_entries (ev_var rfl) (ex _ _ g0) rfl) (.lst (sq_of (ex _ _ g2)) (dp_ens (hF.ex ex)))) (ed_ens (ev_var rfl) (ex _ _ ge) (hE.ex ex)) (shaped_en _)) fun H4 e4 => k.go (ex.trans e4)

-- K50E
/-! ### the law's draws -/
theorem wi_ixN {s l : Addr} {σ : L2.St} {H : Hp} {ta tb : TE} {xs : List Nat} {q : Int → Prop} (st : StAt H s) (ha : Ev ta σ H (.ref l)) (hls : l ≠ s) (hx : H l = some (.lst ((cs xs).map V.int))) (hb : ∀ H1, Fr s H H1 → EvI s tb σ H1 q) (hq : ∀ z, q z → ∃ j : Nat, z = (j : Int) ∧ j < xs.length) : EvI s (tOp (rIxL K) ta tb) σ H (fun z => ∃ x : Nat, z = (x : Int) ∧ x ∈ xs) := fun Q k =>
  ha H (Ex.refl H) _ fun H1 e1 => hb H1 (Fr.ex st e1) _ fun i H2 f2 hi => by
    obtain ⟨j, rfl, hj⟩ := hq i hi
    have hx2 : xs[j]? = some xs[j] := List.getElem?_eq_getElem hj
    exact ⟨l, _, (j : Int), .int ((xs[j] : Nat) : Int), rfl, rfl, sq_of (f2.l hls (e1 _ _ hx)), at_of (j := j) rfl (at_int (cs_at hx2)), k _ H2 ((Fr.ex st e1).trans f2) ⟨xs[j], rfl, List.mem_of_getElem? hx2⟩⟩
def ptI (y : Int) : Prop := ∃ t : Nat, y = (t : Int) ∧ ptOk t
def nmI (y : Int) : Prop := ∃ c : Nat, y = (c : Int) ∧ 32 ≤ c ∧ c ≤ 126 ∧ c ≠ 61
def LsP (H : Hp) (m : Nat) (v : V) (G : Hp) : Prop := ∃ (p : Addr) (xs : List Nat), v = .ref p ∧ H p = none ∧ G p = some (.lst ((cs xs).map V.int)) ∧ xs.length ≤ m ∧ ∀ t ∈ xs, ptOk t
def LsM (H : Hp) (v : V) (G : Hp) : Prop := ∃ (p : Addr) (xs : List Nat), v = .ref p ∧ H p = none ∧ G p = some (.lst ((cs xs).map V.int)) ∧ xs.length ≤ 3 ∧ xs ≠ [] ∧ ∀ c ∈ xs, 32 ≤ c ∧ c ≤ 126 ∧ c ≠ 61
def sp_ltext (K : PySem.W.Frag) : Sp := fun vs H Q _ => ∃ (s a : Addr) (ns : List Int) (m : Nat), vs = [.ref s, .ref a, .int (m : Int)] ∧ DrS K H s a ns ∧ m ≤ 9 ∧ ∀ p (xs : List Nat) H', H p = none → Fr s H H' → H' p = some (.lst ((cs xs).map V.int)) → xs.length ≤ m → (∀ t ∈ xs, ptOk t) → Q (.ref p) H'
theorem ok_law_text (T : TX K mg) : FnOk P w K mg base CX0 3 T.a_law_text T.d_law_text ["state", "script", "most"] (sp_ltext K) := by
  refine T.F_law_text.ok sc_law_text (fun vs H Q E h => by obtain ⟨s, a, ns, m, rfl, _⟩ := h; rfl) (fun cdv A outer s0 H vs Q E hr h => ?_)
  obtain ⟨s, a, ns, m, rfl, hd, hm, k⟩ := h
  refine ⟨_, (pss_cons (ps_set (i := 3) sc_law_text.nd rfl (Or.inl rfl) (pe_lst (pa_cons pe_int (pa_cons pe_int (pa_cons pe_int (pa_cons pe_int (pa_cons pe_int (pa_cons pe_int (pa_cons pe_int (pa_cons pe_int (pa_cons pe_int (pa_cons pe_int (pa_cons pe_int (pa_cons pe_int pa_nil))))))))))))))
      (pss_cons (ps_set (i := 4) sc_law_text.nd rfl (Or.inl rfl) (pe_lst pa_nil))
      (pss_cons (ps_for PassesOwn.never rfl (pi_range1 (by rfl) T.m_range (pa_cons (pe_call (ok_law_draw T) (hr.mono (by decide)) (by rfl) T.g_law_draw T.F_law_draw.kp T.b_law_draw .nil pass0 (pa_cons (pv 0) (pa_cons (pv 1) (pa_cons (pe_op op_add (pv 2) pe_int) pa_nil)))) pa_nil)) (pg_name (i := 5) sc_law_text.nd rfl (Or.inl rfl)) (pss_cons (ps_set (i := 6) sc_law_text.nd rfl (Or.inl rfl) (pe_ix (r := rIxL K) ix_list (pv 3) (pe_call (ok_law_draw T) (hr.mono (by decide)) (by rfl) T.g_law_draw T.F_law_draw.kp T.b_law_draw .nil pass0 (pa_cons (pv 0) (pa_cons (pv 1) (pa_cons pe_int pa_nil)))) (fun _ _ => rfl)))
        (pss_cons (ps_if (pt_cmpR op_eq (pe_call (ok_law_draw T) (hr.mono (by decide)) (by rfl) T.g_law_draw T.F_law_draw.kp T.b_law_draw .nil pass0 (pa_cons (pv 0) (pa_cons (pv 1) (pa_cons pe_int pa_nil)))) pe_int (nomark _)) (pss_one (ps_set (i := 6) sc_law_text.nd rfl (Or.inl rfl) (pe_call (ok_law_draw T) (hr.mono (by decide)) (by rfl) T.g_law_draw T.F_law_draw.kp T.b_law_draw .nil pass0 (pa_cons (pv 0) (pa_cons (pv 1) (pa_cons pe_int pa_nil)))))) pss_nil)
        (pss_one (ps_expr (pe_bm PySem.F.plainAttrs_list PySem.F.slot_list_append PySem.F.type_list_append mt_append (pv 4) (pa_cons (pv 6) pa_nil)))))))
      (pss_one (ps_ret (pv 4)))))), ?_⟩
  have hes : ∀ x ∈ [0, 127, 128, 2047, 2048, 55295, 57344, 65535, 65536, 1114111, 65, 61], ptOk x := fun x hx => by
    simp only [List.mem_cons, List.not_mem_nil, or_false] at hx
    unfold ptOk
    omega
  refine q_asgL (xs := (cs [0, 127, 128, 2047, 2048, 55295, 57344, 65535, 65536, 1114111, 65, 61]).map V.int) (el_lst (ea_cons ev_c (ea_cons ev_c (ea_cons ev_c (ea_cons ev_c (ea_cons ev_c (ea_cons ev_c (ea_cons ev_c (ea_cons ev_c (ea_cons ev_c (ea_cons ev_c (ea_cons ev_c (ea_cons ev_c ea_nil)))))))))))) (by decide)) fun q H1 hq e1 gq => ?_
  refine q_asgL (xs := []) (el_lst ea_nil (by decide)) fun p H2 hp e2 gp => ?_
  have e12 := e1.trans e2
  have hd2 := hd.ex e12
  have hpH := fresh_back e1 hp
  have nps := ne_st hd.1 hpH
  have nqs := ne_st hd.1 hq
  have npq : p ≠ q := ne_known hp (by rw [gq]; exact fun z => nomatch z)
  have gq2 := e2 _ _ gq
  obtain ⟨es, hese⟩ : ∃ es : List Nat, [0, 127, 128, 2047, 2048, 55295, 57344, 65535, 65536, 1114111, 65, 61] = es := ⟨_, rfl⟩
  have hel : es.length = 12 := by rw [← hese]; rfl
  rw [hese] at hes gq2
  show tSeq _ _ _ [some (.ref s), some (.ref a), some (.int (m : Int)), some (.ref q), some (.ref p), none, none] _
  refine qw_forR1 (wi_draw (n := (m : Int) + 1) hd2 rfl rfl (ev_I0 (g := fun i j => .int (i + j)) (ev_var rfl) ev_c) (by omega) (by omega)) (fun i hi => by obtain ⟨d, rfl, hd⟩ := hi; omega) (fun n i σ' H' => ∃ (xs : List Nat) (z5 z6 : Option V), σ' = [some (.ref s), some (.ref a), some (.int (m : Int)), some (.ref q), some (.ref p), z5, z6] ∧ Fr s H H' ∧ H' q = some (.lst ((cs es).map V.int)) ∧ H' p = some (.lst ((cs xs).map V.int)) ∧ xs.length = i ∧ ∀ t ∈ xs, ptOk t) (fun n H3 _ f3 => ⟨[], none, none, rfl, (Fr.ex hd.1 e12).trans f3, f3.l nqs gq2, f3.l nps gp, rfl, fun t ht => by cases ht⟩) ?_ ?_
  · rintro n i σ' H3 hn hi ⟨xs, z5, z6, rfl, f, gq3, gp3, hxl, hxo⟩
    obtain ⟨d, rfl, hdn⟩ := hn
    have hd3 := hd.fr f
    refine qw_asg (wi_ixN (K := K) hd3.1 (ev_var rfl) nqs gq3 (fun H4 f4 => wi_draw (n := 12) (hd3.fr f4) rfl rfl ev_c (by decide) (by decide)) (fun z hz => by obtain ⟨j, rfl, hj⟩ := hz; exact ⟨j, rfl, by omega⟩)) fun x H4 f4 hx => ?_
    obtain ⟨x, rfl, hxm⟩ := hx
    have hd4 := hd3.fr f4
    refine qw_whenI (R := ptI) (j := 6) (x := (x : Int)) rfl (wt_eq (wi_draw (n := 2) hd4 rfl rfl ev_c (by decide) (by decide)) fun H5 f5 => wi_ev f5.2 ev_c) (fun _ D' H5 f5 kk => sw_asg (wi_draw (n := 55296) (hd4.fr f5) rfl rfl ev_c (by decide) (by decide)) fun y H6 f6 hy => kk y H6 (by obtain ⟨t, rfl, ht⟩ := hy; exact ⟨t, rfl, by unfold ptOk; omega⟩) (f5.trans f6)) (fun _ => ⟨x, rfl, hes x hxm⟩) fun y H5 hy f5 => ?_
    obtain ⟨y, rfl, hyo⟩ := hy
    have f45 := f4.trans f5
    refine s_app (f45.l nps gp3) (ev_var rfl) (ev_var rfl) (by rw [List.length_map, cs_len]; omega) fun H6 e6 => ⟨xs ++ [y], _, _, rfl, (f.trans (f45.tex e6)).mut hpH nps, ?_, by rw [upd_same, cs_append, List.map_append]; rfl, by rw [List.length_append, hxl]; rfl, fun t ht => ?_⟩
    · rw [upd_ne (Ne.symm npq)]
      exact e6 _ _ (f45.l nqs gq3)
    · rcases List.mem_append.mp ht with ht | ht
      · exact hxo t ht
      · rw [List.mem_singleton.mp ht]; exact hyo
  · rintro n σ' H3 hn ⟨xs, z5, z6, rfl, f, gq3, gp3, hxl, hxo⟩
    obtain ⟨d, rfl, hdn⟩ := hn
    exact s_ret (ev_var rfl) fun H4 e4 => k p xs H4 hpH (f.tex e4) (e4 _ _ gp3) (by omega) hxo
def sp_lname (K : PySem.W.Frag) : Sp := fun vs H Q _ => ∃ (s a : Addr) (ns : List Int), vs = [.ref s, .ref a] ∧ DrS K H s a ns ∧ ∀ p (xs : List Nat) H', H p = none → Fr s H H' → H' p = some (.lst ((cs xs).map V.int)) → xs.length ≤ 3 → xs ≠ [] → (∀ c ∈ xs, 32 ≤ c ∧ c ≤ 126 ∧ c ≠ 61) → Q (.ref p) H'
theorem ok_law_name (T : TX K mg) : FnOk P w K mg base CX0 3 T.a_law_name T.d_law_name ["state", "script"] (sp_lname K) := by
  refine T.F_law_name.ok sc_law_name (fun vs H Q E h => by obtain ⟨s, a, ns, rfl, _⟩ := h; rfl) (fun cdv A outer s0 H vs Q E hr h => ?_)
  obtain ⟨s, a, ns, rfl, hd, k⟩ := h
  refine ⟨_, (pss_cons (ps_set (i := 2) sc_law_name.nd rfl (Or.inl rfl) (pe_lst (pa_cons pe_int (pa_cons pe_int (pa_cons pe_int (pa_cons pe_int (pa_cons pe_int (pa_cons pe_int (pa_cons pe_int (pa_cons pe_int (pa_cons pe_int (pa_cons pe_int (pa_cons pe_int (pa_cons pe_int pa_nil))))))))))))))
      (pss_cons (ps_set (i := 3) sc_law_name.nd rfl (Or.inl rfl) (pe_lst pa_nil))
      (pss_cons (ps_for PassesOwn.never rfl (pi_range1 (by rfl) T.m_range (pa_cons (pe_op op_add pe_int (pe_call (ok_law_draw T) (hr.mono (by decide)) (by rfl) T.g_law_draw T.F_law_draw.kp T.b_law_draw .nil pass0 (pa_cons (pv 0) (pa_cons (pv 1) (pa_cons pe_int pa_nil))))) pa_nil)) (pg_name (i := 4) sc_law_name.nd rfl (Or.inl rfl)) (pss_cons (ps_set (i := 5) sc_law_name.nd rfl (Or.inl rfl) (pe_ix (r := rIxL K) ix_list (pv 2) (pe_call (ok_law_draw T) (hr.mono (by decide)) (by rfl) T.g_law_draw T.F_law_draw.kp T.b_law_draw .nil pass0 (pa_cons (pv 0) (pa_cons (pv 1) (pa_cons pe_int pa_nil)))) (fun _ _ => rfl)))
        (pss_cons (ps_if (pt_cmpR op_eq (pe_call (ok_law_draw T) (hr.mono (by decide)) (by rfl) T.g_law_draw T.F_law_draw.kp T.b_law_draw .nil pass0 (pa_cons (pv 0) (pa_cons (pv 1) (pa_cons pe_int pa_nil)))) pe_int (nomark _)) (pss_cons (ps_set (i := 5) sc_law_name.nd rfl (Or.inl rfl) (pe_op op_add pe_int (pe_call (ok_law_draw T) (hr.mono (by decide)) (by rfl) T.g_law_draw T.F_law_draw.kp T.b_law_draw .nil pass0 (pa_cons (pv 0) (pa_cons (pv 1) (pa_cons pe_int pa_nil))))))
          (pss_one (ps_if (pt_cmpR op_ge (pv 5) pe_int (nomark _)) (pss_one (ps_set (i := 5) sc_law_name.nd rfl (Or.inl rfl) (pe_op op_add (pv 5) pe_int))) pss_nil))) pss_nil)
        (pss_one (ps_expr (pe_bm PySem.F.plainAttrs_list PySem.F.slot_list_append PySem.F.type_list_append mt_append (pv 3) (pa_cons (pv 5) pa_nil)))))))
      (pss_one (ps_ret (pv 3)))))), ?_⟩
  have hes : ∀ c ∈ [65, 97, 66, 98, 90, 122, 64, 91, 96, 123, 32, 126], 32 ≤ c ∧ c ≤ 126 ∧ c ≠ 61 := fun x hx => by
    simp only [List.mem_cons, List.not_mem_nil, or_false] at hx
    omega
  refine q_asgL (xs := (cs [65, 97, 66, 98, 90, 122, 64, 91, 96, 123, 32, 126]).map V.int) (el_lst (ea_cons ev_c (ea_cons ev_c (ea_cons ev_c (ea_cons ev_c (ea_cons ev_c (ea_cons ev_c (ea_cons ev_c (ea_cons ev_c (ea_cons ev_c (ea_cons ev_c (ea_cons ev_c (ea_cons ev_c ea_nil)))))))))))) (by decide)) fun q H1 hq e1 gq => ?_
  refine q_asgL (xs := []) (el_lst ea_nil (by decide)) fun p H2 hp e2 gp => ?_
  have e12 := e1.trans e2
  have hd2 := hd.ex e12
  have hpH := fresh_back e1 hp
  have nps := ne_st hd.1 hpH
  have nqs := ne_st hd.1 hq
  have npq : p ≠ q := ne_known hp (by rw [gq]; exact fun z => nomatch z)
  have gq2 := e2 _ _ gq
  obtain ⟨es, hese⟩ : ∃ es : List Nat, [65, 97, 66, 98, 90, 122, 64, 91, 96, 123, 32, 126] = es := ⟨_, rfl⟩
  have hel : es.length = 12 := by rw [← hese]; rfl
  rw [hese] at hes gq2
  show tSeq _ _ _ [some (.ref s), some (.ref a), some (.ref q), some (.ref p), none, none] _
  refine qw_forR1 (p := fun z => ∃ d : Nat, z = (d : Int) ∧ 1 ≤ d ∧ d ≤ 3) (fun Q0 k0 => wi_op (g := fun i j => i + j) (wi_ev hd2.1 ev_c) (fun H3 f3 => wi_draw (n := 3) (hd2.fr f3) rfl rfl ev_c (by decide) (by decide)) Q0 fun z H3 f3 hz => k0 z H3 f3 (by obtain ⟨_, _, rfl, ⟨d, rfl, hd⟩, rfl⟩ := hz; exact ⟨d + 1, by omega, by omega, by omega⟩)) (fun i hi => by obtain ⟨d, rfl, hd⟩ := hi; omega) (fun n i σ' H' => ∃ (xs : List Nat) (z5 z6 : Option V), σ' = [some (.ref s), some (.ref a), some (.ref q), some (.ref p), z5, z6] ∧ Fr s H H' ∧ H' q = some (.lst ((cs es).map V.int)) ∧ H' p = some (.lst ((cs xs).map V.int)) ∧ xs.length = i ∧ ∀ c ∈ xs, 32 ≤ c ∧ c ≤ 126 ∧ c ≠ 61) (fun n H3 _ f3 => ⟨[], none, none, rfl, (Fr.ex hd.1 e12).trans f3, f3.l nqs gq2, f3.l nps gp, rfl, fun t ht => by cases ht⟩) ?_ ?_
  · rintro n i σ' H3 hn hi ⟨xs, z5, z6, rfl, f, gq3, gp3, hxl, hxo⟩
    obtain ⟨d, rfl, hdn⟩ := hn
    have hd3 := hd.fr f
    refine qw_asg (wi_ixN (K := K) hd3.1 (ev_var rfl) nqs gq3 (fun H4 f4 => wi_draw (n := 12) (hd3.fr f4) rfl rfl ev_c (by decide) (by decide)) (fun z hz => by obtain ⟨j, rfl, hj⟩ := hz; exact ⟨j, rfl, by omega⟩)) fun x H4 f4 hx => ?_
    obtain ⟨x, rfl, hxm⟩ := hx
    have hd4 := hd3.fr f4
    refine qw_whenI (R := nmI) (j := 5) (x := (x : Int)) rfl (wt_eq (wi_draw (n := 4) hd4 rfl rfl ev_c (by decide) (by decide)) fun H5 f5 => wi_ev f5.2 ev_c) (fun _ D' H5 f5 kk => qw_asg (wi_op (g := fun i j => i + j) (wi_ev f5.2 ev_c) fun H6 f6 => wi_draw (n := 94) ((hd4.fr f5).fr f6) rfl rfl ev_c (by decide) (by decide)) fun y H6 f6 hy => ?_) (fun _ => ⟨x, rfl, hes x hxm⟩) fun y H5 hy f5 => ?_
    · obtain ⟨_, _, rfl, ⟨t, rfl, ht⟩, rfl⟩ := hy
      refine sw_whenI (p := fun b => b = decide (61 ≤ (32 : Int) + (t : Int))) (R := nmI) (j := 5) (x := (32 : Int) + (t : Int)) rfl (wt_ev f6.2 (et_test (ev_I0 (g := fun i j => .bl (decide (j ≤ i))) (ev_var rfl) ev_c))) (fun hp H7 f7 => s_asg (v := .int ((32 : Int) + (t : Int) + 1)) (ev_I0 (g := fun i j => .int (i + j)) (ev_var rfl) ev_c) fun H8 e8 => kk _ H8 ⟨t + 33, by omega, ?_⟩ ((f5.trans f6).trans (f7.tex e8))) (fun hp => ⟨t + 32, by omega, ?_⟩) fun z H7 hz f7 => kk z H7 hz ((f5.trans f6).trans f7)
      · have := of_decide_eq_true hp.symm; omega
      · have := of_decide_eq_false hp.symm; omega
    obtain ⟨y, rfl, hyo⟩ := hy
    have f45 := f4.trans f5
    refine s_app (f45.l nps gp3) (ev_var rfl) (ev_var rfl) (by rw [List.length_map, cs_len]; omega) fun H6 e6 => ⟨xs ++ [y], _, _, rfl, (f.trans (f45.tex e6)).mut hpH nps, ?_, by rw [upd_same, cs_append, List.map_append]; rfl, by rw [List.length_append, hxl]; rfl, fun t ht => ?_⟩
    · rw [upd_ne (Ne.symm npq)]
      exact e6 _ _ (f45.l nqs gq3)
    · rcases List.mem_append.mp ht with ht | ht
      · exact hxo t ht
      · rw [List.mem_singleton.mp ht]; exact hyo
  · rintro n σ' H3 hn ⟨xs, z5, z6, rfl, f, gq3, gp3, hxl, hxo⟩
    obtain ⟨d, rfl, hdn⟩ := hn
    exact s_ret (ev_var rfl) fun H4 e4 => k p xs H4 hpH (f.tex e4) (e4 _ _ gp3) (by omega) (by rintro rfl; have : (0 : Nat) = (d : Int).toNat := hxl; omega) hxo
theorem xw_text {s a : Addr} {ns : List Int} {σ : L2.St} {H : Hp} {tm : TE} {E : XK} {i j m : Nat} (hd : DrS K H s a ns) (h1 : σ[i]? = some (some (.ref s))) (h2 : σ[j]? = some (some (.ref a))) (h3 : Ev tm σ H (.int (m : Int))) (hm : m ≤ 9) : EvXW s (tCall (sp_ltext K) [] E (tCons (tVar i) (tCons (tVar j) (tCons tm tNil)))) σ H (LsP H m) := fun Q q =>
  (ea_cons (ev_var h1) (ea_cons (ev_var h2) (ea_cons h3 ea_nil))) H (Ex.refl H) _ fun H1 e1 => ⟨s, a, ns, m, rfl, hd.ex e1, hm, fun p xs H2 hp f2 gp hl ho => q (.ref p) H2 ((Fr.ex hd.1 e1).trans f2) ⟨p, xs, rfl, fresh_back e1 hp, gp, hl, ho⟩⟩
theorem xw_name {s a : Addr} {ns : List Int} {σ : L2.St} {H : Hp} {E : XK} {i j : Nat} (hd : DrS K H s a ns) (h1 : σ[i]? = some (some (.ref s))) (h2 : σ[j]? = some (some (.ref a))) : EvXW s (tCall (sp_lname K) [] E (tCons (tVar i) (tCons (tVar j) tNil))) σ H (LsM H) := fun Q q =>
  (ea_cons (ev_var h1) (ea_cons (ev_var h2) ea_nil)) H (Ex.refl H) _ fun H1 e1 => ⟨s, a, ns, rfl, hd.ex e1, fun p xs H2 hp f2 gp hl hne ho => q (.ref p) H2 ((Fr.ex hd.1 e1).trans f2) ⟨p, xs, rfl, fresh_back e1 hp, gp, hl, hne, ho⟩⟩
theorem LsM.fr {s : Addr} {H : Hp} (st : StAt H s) : ∀ v G G', Fr s G G' → LsM H v G → LsM H v G' := fun v G G' f ⟨p, xs, h1, h2, h3, h4⟩ => ⟨p, xs, h1, h2, f.l (ne_st st h2) h3, h4⟩
theorem LsP.ex {H : Hp} {m : Nat} : ∀ v G G', Ex G G' → LsP H m v G → LsP H m v G' := fun v G G' e ⟨p, xs, h1, h2, h3, h4⟩ => ⟨p, xs, h1, h2, e _ _ h3, h4⟩
/-- an entry as the law draws it, its size in bytes -/
theorem entB_bd {e : Ne} : (entB e).length = 5 + e.1.length + (utfB e.2).length := by unfold entB oneB; rw [List.length_append, lowN_len, List.length_append, List.length_cons]; omega
theorem entsB_app (l m : List Ne) : entsB (l ++ m) = entsB l ++ entsB m := List.flatMap_append ..
theorem entsB_one (e : Ne) : entsB [e] = entB e := List.append_nil _
def sp_lents (K : PySem.W.Frag) : Sp := fun vs H Q _ => ∃ (s a : Addr) (ns : List Int) (m : Nat), vs = [.ref s, .ref a, .int (m : Int)] ∧ DrS K H s a ns ∧ m ≤ 9 ∧ ∀ p (as : List Addr) (es : List Ne) H', H p = none → Fr s H H' → H' p = some (.lst (as.map V.ref)) → EnsN (fun b => b ≠ s ∧ b ≠ p) H' as (es.map neI) → es.length ≤ m → (∀ e ∈ es, NeOk e) → (entsB es).length ≤ 24 * es.length → Q (.ref p) H'
theorem ok_law_entries (T : TX K mg) : FnOk P w K mg base CX0 4 T.a_law_entries T.d_law_entries ["state", "script", "most"] (sp_lents K) := by
  refine T.F_law_entries.ok sc_law_entries (fun vs H Q E h => by obtain ⟨s, a, ns, m, rfl, _⟩ := h; rfl) (fun cdv A outer s0 H vs Q E hr h => ?_)
  obtain ⟨s, a, ns, m, rfl, hd, hm, k⟩ := h
  refine ⟨_, (pss_one (ps_ret (pe_lc (own := [("k", 3)]) (g := gName 3) (tt := tYes) rfl sc_law_entries.nd (pi_range1 (by rfl) T.m_range (pa_cons (pe_call (ok_law_draw T) (hr.mono (by decide)) (by rfl) T.g_law_draw T.F_law_draw.kp T.b_law_draw .nil pass0 (pa_cons (pv 0) (pa_cons (pv 1) (pa_cons (pe_op op_add (pv 2) pe_int) pa_nil)))) pa_nil)) (blkOk_by (N := ["state", "script", "most", "k"]) (sc := defScope s_law_entries) (by decide +kernel)) (fun _ _ _ _ _ => pg_name (i := 3) sc_law_entries.nd rfl (Or.inl rfl)) (fun _ _ _ _ _ => pts_nil) (fun _ _ _ _ _ => (pe_tup (pa_cons (pe_call (ok_law_name T) (hr.mono (by decide)) (by rfl) T.g_law_name T.F_law_name.kp T.b_law_name .nil pass0 (pa_cons (pv 0) (pa_cons (pv 1) pa_nil))) (pa_cons (pe_call (ok_law_text T) (hr.mono (by decide)) (by rfl) T.g_law_text T.F_law_text.kp T.b_law_text .nil pass0 (pa_cons (pv 0) (pa_cons (pv 1) (pa_cons pe_int pa_nil)))) pa_nil))))))), ?_⟩
  refine tlc_rngWW (wi_draw (n := (m : Int) + 1) hd rfl rfl (ev_I0 (g := fun i j => .int (i + j)) (ev_var rfl) ev_c) (by omega) (by omega)) (fun i hi => by obtain ⟨d, rfl, hd⟩ := hi; omega) fun n H1 hn f1 Dl hDl => ⟨fun i H' => ∃ (as : List Addr) (es : List Ne), Fr s H1 H' ∧ H' Dl = some (.lst (as.map V.ref)) ∧ es.length = i ∧ EnsN (fun b => b ≠ s ∧ b ≠ Dl) H' as (es.map neI) ∧ (∀ e ∈ es, NeOk e) ∧ (entsB es).length ≤ 24 * es.length, ⟨[], [], Fr.ex f1.2 (Ex.new hDl), upd_same, rfl, EnsN.nil, (fun e he => by cases he), Nat.le_refl _⟩, fun i H' hi h => ⟨rfl, ?_⟩, fun H' h => ?_⟩
  · obtain ⟨as, es, f, gD, hel, hE, hb, hbl⟩ := h
    have hdr := (hd.fr f1).fr f
    have nDs := ne_st f1.2 hDl
    have hnl : (i : Int) ≤ 10 := by obtain ⟨d, rfl, hd2⟩ := hn; omega
    refine xw_pair (s := s) (σ := [some (.ref s), some (.ref a), some (.int (m : Int)), some (.int (i : Int))]) (H := H') (xw_name hdr rfl rfl) (LsM.fr hdr.1) (fun v G G' e (h : ∃ H0, StAt H0 s ∧ (∀ b, H' b ≠ none → H0 b ≠ none) ∧ LsP H0 4 v G) => by obtain ⟨H0, h0, h00, h⟩ := h; exact ⟨H0, h0, h00, LsP.ex v G G' e h⟩) (fun H2 f2 Q0 q0 => xw_text (m := 4) (hdr.fr f2) rfl rfl ev_c (by decide) _ fun v H3 f3 h => q0 v H3 f3 ⟨H2, f2.2, fun b hb hb2 => hb (f2.fresh hb2), h⟩) _ fun v H2 f2 hv => ?_
    obtain ⟨pt, v1, v2, rfl, hpt, gpt, ⟨p1, x1, rfl, hp1, gp1, hl1, hne1, ho1⟩, H0, st0, hk0, p2, x2, rfl, hp2, gp2, hl2, ho2⟩ := hv
    have gD2 := f2.l nDs gD
    have hDk : H' Dl ≠ none := by rw [gD]; exact fun z => nomatch z
    have kp : Kp (fun b => b ≠ s ∧ b ≠ Dl) H' (upd H2 Dl (.lst (as.map V.ref ++ [.ref pt]))) := (Kp.fr f2 (fun h => h.1 rfl)).mut fun h => absurd rfl h.2
    have nn : ∀ {b : Addr}, H' b = none → b ≠ s ∧ b ≠ Dl := fun h => ⟨ne_st hdr.1 h, ne_known h hDk⟩
    have n2 : p2 ≠ s ∧ p2 ≠ Dl := ⟨ne_st st0 hp2, ne_known hp2 (hk0 _ hDk)⟩
    have hul := utfB_len x2
    refine ⟨_, gD2, sz_lt (by rw [List.length_map, hE.1, List.length_map, hel]; omega), as ++ [pt], es ++ [(x1, x2)], ?_, by rw [upd_same, List.map_append]; rfl, by rw [List.length_append, hel]; rfl, ?_, fun e he => ?_, ?_⟩
    · exact (f.trans f2).mut hDl nDs
    · rw [List.map_append]
      exact (hE.kp kp).snoc (e := neI (x1, x2)) (nn hpt) (by rw [upd_ne (nn hpt).2]; exact gpt) (nn hp1) (by rw [upd_ne (nn hp1).2]; exact gp1) n2 (by rw [upd_ne n2.2]; exact gp2)
    · rcases List.mem_append.mp he with he | he
      · exact hb e he
      · rw [List.mem_singleton.mp he]; exact ⟨ho1, hne1, ho2, by show x1.length ≤ 1000; omega, by show x2.length ≤ 1000; omega⟩
    · rw [entsB_app, entsB_one, List.length_append, entB_bd, List.length_append]
      show _ + (5 + x1.length + (utfB x2).length) ≤ 24 * (es.length + 1)
      omega
  · obtain ⟨as, es, f, gD, hel, hE, hb, hbl⟩ := h
    obtain ⟨d, rfl, hd2⟩ := hn
    exact k Dl as es H' (f1.fresh hDl) (f1.trans f) gD hE (by omega) hb hbl

-- K50F
/-! ### the law: draws -/
section
variable {s : Addr} {σ : L2.St} {H : Hp} {t : TT} {p q : Int → Prop} {D : Ends} {tz tu : TS} {te ta tb t0 t1 t2 : TE} {S S1 S2 : V → Hp → Prop}
theorem qw_whenS {pb : Bool → Prop} {R : L2.St → Hp → Prop} (h : EvTW s t σ H pb) (h1 : pb true → ∀ (D' : Ends) H1, Fr s H H1 → (∀ σ' H2, R σ' H2 → D'.nx σ' H2) → tu D' σ H1) (h2 : pb false → ∀ H1, Fr s H H1 → R σ H1) (k : ∀ σ' H1, R σ' H1 → tz D σ' H1) : tSeq (tIfS t tu tNext) tz D σ H := h _ fun b H1 f hb => by
  cases b with
  | true => exact h1 hb { D with nx := tz D } H1 f k
  | false => exact k σ H1 (h2 hb H1 f)
theorem q_whenS {b : Bool} {R : L2.St → Hp → Prop} (h : EvT t σ H b) (h1 : b = true → ∀ (D' : Ends) H1, Ex H H1 → (∀ σ' H2, R σ' H2 → D'.nx σ' H2) → tu D' σ H1) (h2 : b = false → ∀ H1, Ex H H1 → R σ H1) (k : ∀ σ' H1, R σ' H1 → tz D σ' H1) : tSeq (tIfS t tu tNext) tz D σ H := h H (Ex.refl H) _ fun H1 e => by
  cases b with
  | true => exact h1 rfl { D with nx := tz D } H1 e k
  | false => exact k σ H1 (h2 rfl H1 e)
theorem q_asgXW {i : Nat} (h : EvXW s te σ H S) (k : ∀ v H1, Fr s H H1 → S v H1 → tz D (σ.set i (some v)) H1) : tSeq (tAsg te (gName i)) tz D σ H := h _ k
theorem s_asgXW {i : Nat} (h : EvXW s te σ H S) (k : ∀ v H1, Fr s H H1 → S v H1 → D.nx (σ.set i (some v)) H1) : tAsg te (gName i) D σ H := h _ k
theorem q_goT {i : Nat} (h : te σ H fun v H1 => tz D (σ.set i (some v)) H1) : tSeq (tAsg te (gName i)) tz D σ H := h
theorem EvX.toW (h : EvX te σ H S) (st : StAt H s) : EvXW s te σ H S := fun Q k => h H (Ex.refl H) _ fun v H2 e2 hS => k v H2 (Fr.ex st e2) hS
theorem EvXW.imp (h : EvXW s te σ H S) (i : ∀ v G, Fr s H G → S v G → S1 v G) : EvXW s te σ H S1 := fun Q k => h _ fun v H2 f hS => k v H2 f (i v H2 f hS)
theorem wl_repD (ha : EvI s t0 σ H q) (hb : ∀ H1, Fr s H H1 → EvI s tb σ H1 p) (hp : ∀ z, p z → 0 ≤ z ∧ z ≤ 1000) : EvLW s (tOp rRep (tLst (tCons t0 tNil)) tb) σ H (fun ys => ∃ (x : Int) (n : Nat), q x ∧ p (n : Int) ∧ n ≤ 1000 ∧ ys = List.replicate n (.int x)) := fun Q k =>
  ha _ fun x H1 f1 hx => ⟨sz_of (show 1 ≤ 100000 by decide), fun r hr => by
    have f2 : Fr s H (upd H1 r (.lst [.int x])) := f1.tex (Ex.new hr)
    exact hb _ f2 _ fun i H2 f3 hi => ⟨r, i, [.int x], rfl, rfl, f3.l (ne_st f1.2 hr) upd_same, by have := hp i hi; omega, by have := hp i hi; omega, sz_of (by have := hp i hi; show 1 * i.toNat ≤ 100000; omega), fun l hl => by
      have h2 := hp i hi
      have f02 := f2.trans f3
      exact k l _ _ (f02.fresh hl) (f02.tex (Ex.new hl)) upd_same ⟨x, i.toNat, hx, by rw [Int.toNat_of_nonneg h2.1]; exact hi, by omega, rep_one _⟩⟩⟩
theorem xw_two (ha : EvXW s t1 σ H S1) (hu : ∀ v G G', Fr s G G' → S1 v G → S1 v G') (hu2 : ∀ v G G', Ex G G' → S2 v G → S2 v G') (hb : ∀ H1, Fr s H H1 → EvXW s t2 σ H1 S2) : EvXW s (tLst (tCons t1 (tCons t2 tNil))) σ H (fun v G => ∃ (p : Addr) (v1 v2 : V), v = .ref p ∧ H p = none ∧ G p = some (.lst [v1, v2]) ∧ S1 v1 G ∧ S2 v2 G) := fun Q k =>
  ha _ fun v1 H1 f1 s1 => hb H1 f1 _ fun v2 H2 f2 s2 => ⟨Nat.le_of_ble_eq_true rfl, fun p hp => by
    have f3 := Fr.ex f2.2 (Ex.new (o := .lst [v1, v2]) hp)
    exact k (.ref p) _ ((f1.trans f2).trans f3) ⟨p, v1, v2, rfl, (f1.trans f2).fresh hp, upd_same, hu _ _ _ (f2.trans f3) s1, hu2 _ _ _ (Ex.new hp) s2⟩⟩
end
def EtN (s : Addr) (v : V) (G : Hp) (e : Ne) : Prop := ∃ t pn pw, v = .ref t ∧ t ≠ s ∧ G t = some (.tup [.ref pn, .ref pw]) ∧ pn ≠ s ∧ G pn = some (.lst ((cs e.1).map V.int)) ∧ pw ≠ s ∧ G pw = some (.lst ((cs e.2).map V.int))
theorem EtN.fr {s : Addr} {v : V} {G G' : Hp} {e : Ne} (h : EtN s v G e) (f : Fr s G G') : EtN s v G' e := by
  obtain ⟨t, pn, pw, h1, h2, h3, h4, h5, h6, h7⟩ := h
  exact ⟨t, pn, pw, h1, h2, f.1 _ _ h2 h3, h4, f.l h4 h5, h6, f.l h6 h7⟩
theorem EtN.ex {s : Addr} {v : V} {G G' : Hp} {e : Ne} (h : EtN s v G e) (f : Ex G G') : EtN s v G' e := by
  obtain ⟨t, pn, pw, h1, h2, h3, h4, h5, h6, h7⟩ := h
  exact ⟨t, pn, pw, h1, h2, f _ _ h3, h4, f _ _ h5, h6, f _ _ h7⟩
def LwA (s : Addr) (G : Hp) (pw : Addr) (vd : List Nat) (pe : Addr) (as : List Addr) (l : List Ne) (n m : Nat) : Prop := pw ≠ s ∧ G pw = some (.lst ((cs vd).map V.int)) ∧ pe ≠ s ∧ G pe = some (.lst (as.map V.ref)) ∧ EnsN (fun b => b ≠ s) G as (l.map neI) ∧ (∀ t ∈ vd, ptOk t) ∧ vd.length ≤ 700 ∧ (∀ e ∈ l, NeOk e) ∧ l.length ≤ n ∧ (entsB l).length ≤ m
theorem LwA.fr {s : Addr} {G G' : Hp} {pw pe : Addr} {vd : List Nat} {as : List Addr} {l : List Ne} {n m n' m' : Nat} (h : LwA s G pw vd pe as l n m) (f : Fr s G G') (hn : n ≤ n') (hm : m ≤ m') : LwA s G' pw vd pe as l n' m' := by
  obtain ⟨h1, h2, h3, h4, h5, h6, h7, h8, h9, h10⟩ := h
  exact ⟨h1, f.l h1 h2, h3, f.l h3 h4, h5.kp (Kp.fr f fun h => h rfl), h6, h7, h8, by omega, by omega⟩
/-- entries + more -/
theorem xw_cat {s : Addr} {σ : L2.St} {H : Hp} {ta tb : TE} {pe : Addr} {as : List Addr} {l : List Ne} {P : List Ne → Prop} (st : StAt H s) (ha : Ev ta σ H (.ref pe)) (npe : pe ≠ s) (ge : H pe = some (.lst (as.map V.ref))) (hE : EnsN (fun b => b ≠ s) H as (l.map neI)) (hl : l.length ≤ 1000) (hb : ∀ H1, Fr s H H1 → EvXW s tb σ H1 (fun v G => ∃ (q : Addr) (bs : List Addr) (l2 : List Ne), v = .ref q ∧ G q = some (.lst (bs.map V.ref)) ∧ EnsN (fun b => b ≠ s) G bs (l2.map neI) ∧ P l2)) (hP : ∀ l2, P l2 → l2.length ≤ 1000) : EvXW s (tOp rCat ta tb) σ H (fun v G => ∃ (r : Addr) (bs : List Addr) (l2 : List Ne), v = .ref r ∧ r ≠ s ∧ G r = some (.lst ((as ++ bs).map V.ref)) ∧ EnsN (fun b => b ≠ s) G (as ++ bs) ((l ++ l2).map neI) ∧ P l2) := fun Q k =>
  ha H (Ex.refl H) _ fun H1 e1 => hb H1 (Fr.ex st e1) _ fun v H2 f2 ⟨q, bs, l2, hv, gq, hF, hp⟩ => by
    have f02 : Fr s H H2 := (Fr.ex st e1).trans f2
    subst hv
    refine ⟨pe, q, _, _, rfl, rfl, f02.l npe ge, gq, sz_of (by rw [List.length_map, hE.1, List.length_map, List.length_map, hF.1, List.length_map]; have := hP l2 hp; omega), fun r hr => ?_⟩
    have f3 : Fr s H2 (upd H2 r (.lst (as.map V.ref ++ bs.map V.ref))) := Fr.ex f02.2 (Ex.new hr)
    refine k (.ref r) _ (f02.trans f3) ⟨r, bs, l2, rfl, ne_st f02.2 hr, by rw [upd_same, List.map_append], ?_, hp⟩
    rw [List.map_append]
    exact (hE.kp (Kp.fr (f02.trans f3) fun h => h rfl)).app (hF.kp (Kp.fr f3 fun h => h rfl))
/-- a name drawn, many times -/
theorem xw_nrep {s a : Addr} {ns : List Int} {σ : L2.St} {H : Hp} {E : XK} {i j : Nat} (hd : DrS K H s a ns) (h1 : σ[i]? = some (some (.ref s))) (h2 : σ[j]? = some (some (.ref a))) : EvXW s (tOp rRep (tCall (sp_lname K) [] E (tCons (tVar i) (tCons (tVar j) tNil))) (tC (.int 90))) σ H (fun v G => ∃ (p : Addr) (xs : List Nat), v = .ref p ∧ p ≠ s ∧ G p = some (.lst ((cs xs).map V.int)) ∧ xs.length ≤ 270 ∧ xs ≠ [] ∧ ∀ c ∈ xs, 32 ≤ c ∧ c ≤ 126 ∧ c ≠ 61) := fun Q k =>
  xw_name hd h1 h2 _ fun v H1 f1 ⟨p, xs, hv, hp, gp, hl, hne, ho⟩ => by
    subst hv
    refine ⟨p, 90, _, rfl, rfl, gp, by decide, by decide, sz_of (by rw [List.length_map, cs_len]; show _ * 90 ≤ _; omega), fun r hr => ?_⟩
    refine k (.ref r) _ (f1.tex (Ex.new hr)) ⟨r, (List.replicate 90 xs).flatten, rfl, ne_st f1.2 hr, ?_, ?_, ?_, fun c hc => ?_⟩
    · rw [upd_same]
      unfold cs
      rw [List.map_flatten, List.map_flatten, List.map_replicate, List.map_replicate]
      rfl
    · rw [List.length_flatten, List.map_replicate, List.sum_replicate_nat]
      omega
    · cases xs with
      | nil => exact absurd rfl hne
      | cons x r => exact fun h => by cases h
    · obtain ⟨ys, hy, hc⟩ := List.mem_flatten.mp hc
      rw [(List.mem_replicate.mp hy).2] at hc
      exact ho c hc
/-! ### the law: questions -/
theorem CmN.any {N : Addr → Prop} {C : Addr} {G : Hp} {c : Addr} {vd : List Int} {es : List En} (h : CmN N C G c vd es) : CmN (fun _ => True) C G c vd es := h.imp fun _ _ _ => trivial
theorem EnsN.any {N : Addr → Prop} {G : Hp} {as : List Addr} {es : List En} (h : EnsN N G as es) : EnsN (fun _ => True) G as es := h.imp fun _ _ _ => trivial
theorem el_wcm {σ : L2.St} {H : Hp} {te : TE} {E : XK} {C c : Addr} {vd : List Nat} {l : List Ne} {N : Addr → Prop} (h : Ev te σ H (.ref c)) (hC : CmN N C H c (cs vd) (l.map neI)) (hO : CmOk vd l) : EvL (tCall (sp_wcm C) [] E (tCons te tNil)) σ H ((cs (cmB vd l)).map V.int) := el_call (ea_cons h ea_nil) fun H1 e Q q _ => ⟨c, vd, l, rfl, hC.any.ex e, hO, q⟩
theorem el_lcb {σ : L2.St} {H : Hp} {t1 t2 : TE} {E : XK} {pw pe : Addr} {as : List Addr} {vd : List Nat} {l : List Ne} {N : Addr → Prop} (h1 : Ev t1 σ H (.ref pw)) (h2 : Ev t2 σ H (.ref pe)) (gv : H pw = some (.lst ((cs vd).map V.int))) (ge : H pe = some (.lst (as.map V.ref))) (hE : EnsN N H as (l.map neI)) (hO : CmOk vd l) : EvL (tCall sp_lcb [] E (tCons t1 (tCons t2 tNil))) σ H ((cs (cmB vd l)).map V.int) := el_call (ea_cons h1 (ea_cons h2 ea_nil)) fun H1 e Q q _ => ⟨pw, pe, as, vd, l, rfl, e _ _ gv, e _ _ ge, hE.any.ex e, hO, q⟩
theorem ev_lsm {σ : L2.St} {H : Hp} {t1 t2 t3 : TE} {E : XK} {C c pw pe : Addr} {as : List Addr} {vd : List Int} {es : List En} {N M : Addr → Prop} (h1 : Ev t1 σ H (.ref c)) (h2 : Ev t2 σ H (.ref pw)) (h3 : Ev t3 σ H (.ref pe)) (hC : CmN N C H c vd es) (gv : H pw = some (.lst (vd.map V.int))) (ge : H pe = some (.lst (as.map V.ref))) (hE : EnsN M H as es) (hb : ∀ e ∈ es, e.1.length ≤ 1000 ∧ e.2.length ≤ 1000) : Ev (tCall (sp_lsm C) [] E (tCons t1 (tCons t2 (tCons t3 tNil)))) σ H (.bl true) := ev_call (ea_cons h1 (ea_cons h2 (ea_cons h3 ea_nil))) fun H1 e Q q _ => ⟨c, pw, pe, as, vd, es, rfl, hC.any.ex e, e _ _ gv, e _ _ ge, hE.any.ex e, hb, q⟩
theorem en_rcm {σ : L2.St} {H : Hp} {t1 t2 t3 : TE} {E : XK} {C p : Addr} {pre post vd : List Nat} {l : List Ne} (h1 : Ev t1 σ H (.ref p)) (h2 : Ev t2 σ H (.int (pre.length : Int))) (h3 : Ev t3 σ H (.int ((pre.length + (cmB vd l).length : Nat) : Int))) (hp : SqL K H p ((cs (pre ++ (cmB vd l ++ post))).map V.int)) (hO : CmOk vd l) (hl : pre.length ≤ 1000) : EvN (tCall (sp_rcm K C) [] E (tCons t1 (tCons t2 (tCons t3 tNil)))) σ H (fun c G => CmN (fun b => H b = none) C G c (cs vd) (l.map neI)) := fun H1 e1 Q q =>
  (ea_cons h1 (ea_cons h2 (ea_cons h3 ea_nil))) H1 e1 _ fun H2 e2 => ⟨p, pre, post, vd, l, rfl, ex_l (e1.trans e2) hp, hO, hl, fun c H3 hc e3 hC => q c H3 (fresh_back e2 hc) (e2.trans e3) (hC.imp fun b _ h => fresh_back (e1.trans e2) h)⟩
def CmV (C : Addr) (vd : List Int) (es : List En) : V → Hp → Prop := fun v G => ∃ a, v = .ref a ∧ CmN (fun _ => True) C G a vd es
theorem CmV.up {C : Addr} {vd : List Int} {es : List En} : Up (CmV C vd es) := fun v G G' e ⟨a, h, hC⟩ => ⟨a, h, hC.ex e⟩
theorem ex_cmv {C : Addr} {σ : L2.St} {H : Hp} {te : TE} {c : Addr} {vd : List Int} {es : List En} {N : Addr → Prop} (h : Ev te σ H (.ref c)) (hC : CmN N C H c vd es) : EvX te σ H (CmV C vd es) := Ev.x h fun G e => ⟨c, rfl, hC.any.ex e⟩
theorem ev_ceq (T : TX K mg) {σ : L2.St} {H : Hp} {ta tb : TE} {E : XK} {vd vd' : List Int} {es es' : List En} (ha : EvX ta σ H (CmV T.C_Comments vd es)) (hb : EvX tb σ H (CmV T.C_Comments vd' es')) : Ev (tOp (rEqO T.C_Comments (sp_ceq K T.C_Comments) E K) ta tb) σ H (.bl (decide (vd = vd') && PyData.eqv (enD es) (enD es'))) :=
  ev_eqX ha CmV.up hb fun x y G eG ⟨a, hx, h1⟩ ⟨b, hy, h2⟩ => by
    obtain ⟨dx, pv', pe', as, g0, _⟩ := cm_get h1
    obtain ⟨dx2, pv2, pe2, as2, g02, _⟩ := cm_get h2
    subst hy
    exact ⟨a, dx, _, .ref T.C_Comments, hx, g0, (T.ty_Comments.ins T.cl_Comments g02) G (Ex.refl G), T.nf_Comments_Comments, fun G1 e1 Q q E => ⟨a, .ref b, vd, es, _, rfl, h1.ex e1, .inl ⟨b, vd', es', rfl, h2.ex e1, rfl⟩, q⟩⟩
theorem ev_ceqN (T : TX K mg) {σ : L2.St} {H : Hp} {ta tb : TE} {E : XK} {vd : List Int} {es : List En} {t : Value} {S2 : V → Hp → Prop} (ha : EvX ta σ H (CmV T.C_Comments vd es)) (hb : EvX tb σ H S2) (ht : ∀ y G, S2 y G → ∀ H1, Ex G H1 → TyX K H1 y t) (hk : PySem.W.kitOne K t (.ref T.C_Comments) = some false) (hn : PySem.W.notFirst K T.C_Comments t = true) : Ev (tOp (rEqO T.C_Comments (sp_ceq K T.C_Comments) E K) ta tb) σ H (.bl false) :=
  ev_eqX ha CmV.up hb fun x y G eG ⟨a, hx, h1⟩ h2 => by
    obtain ⟨dx, pv', pe', as, g0, _⟩ := cm_get h1
    exact ⟨a, dx, _, t, hx, g0, ht y G h2 G (Ex.refl G), hn, fun G1 e1 Q q E => ⟨a, y, vd, es, _, rfl, h1.ex e1, .inr ⟨rfl, t, fun H1 e => ht y G h2 H1 (e1.trans e), hk⟩, q⟩⟩
theorem cmB_lt {vd : List Nat} {l : List Ne} (h : CmOk vd l) : ∀ d ∈ cmB vd l, d < 256 := fun d hd => by
  have hlow : ∀ {n c : Nat}, d ∈ lowN n c → d < 256 := fun {n c} h => by
    obtain ⟨i, _, rfl⟩ := List.mem_map.mp h
    exact Nat.mod_lt _ (by decide)
  obtain ⟨hv, _, hl, _⟩ := h
  unfold cmB at hd
  rcases List.mem_append.mp hd with hd | hd
  · rcases List.mem_append.mp hd with hd | hd
    · exact hlow hd
    · rcases List.mem_append.mp hd with hd | hd
      · exact utfB_lt (pt_lt hv) d hd
      · exact hlow hd
  · obtain ⟨e, he, hd⟩ := List.mem_flatMap.mp hd
    obtain ⟨h1, _, h3, _⟩ := hl e he
    unfold entB oneB at hd
    rcases List.mem_append.mp hd with hd | hd
    · exact hlow hd
    · rcases List.mem_append.mp hd with hd | hd
      · have := h1 d hd; omega
      · rcases List.mem_cons.mp hd with rfl | hd
        · decide
        · exact utfB_lt (pt_lt h3) d hd
theorem LwA.cm {s : Addr} {G : Hp} {pw pe : Addr} {vd : List Nat} {as : List Addr} {l : List Ne} {n m : Nat} (h : LwA s G pw vd pe as l n m) (hn : n ≤ 1000) (hm : m ≤ 20000) : CmOk vd l := by
  obtain ⟨h1, h2, h3, h4, h5, h6, h7, h8, h9, h10⟩ := h
  have := utfB_len vd
  exact ⟨h6, by omega, h8, by omega, by rw [cm_len]; omega⟩
theorem ev_intb {σ : L2.St} {H : Hp} {te : TE} {b : Bool} (h : Ev te σ H (.bl b)) : Ev (tCB (fun xs H Q => (∃ i, xs = [V.int i] ∧ Q (V.int i) H) ∨ ∃ k, xs = [V.bl k] ∧ Q (V.int (if k = true then 1 else 0)) H) (tCons te tNil)) σ H (.int (if b = true then 1 else 0)) :=
  ev_cb (ea_cons h ea_nil) fun H1 e Q q => .inr ⟨b, rfl, q H1 (Ex.refl H1)⟩
def trI (p : Int) : Int := Builtin.bitXor p (32 * (if (decide ((65 : Int) ≤ p) && decide (p ≤ 90)) = true then 1 else 0))
def trE (e : En) : En := (e.1.map trI, e.2)
theorem eqv_same (es : List En) : PyData.eqv (enD es) (enD es) = true := SeqAt.eqv_refl _ (SeqAt.canLay_of_shaped (shaped_en es))
theorem eqv_cs (a b : List Nat) : PyData.eqv (.list ((cs a).map PyData.int)) (.list ((cs b).map PyData.int)) = decide (cs a = cs b) := by
  show PyData.eqvAll _ _ = _
  exact eqv_ints _ _
theorem en_cmX (T : TX K mg) {σ : L2.St} {H : Hp} {t1 t2 : TE} {E : XK} {v p : Addr} {vd : List Int} {as : List Addr} {es : List En} {N : Addr → Prop} (h1 : Ev t1 σ H (.ref v)) (gv : H v = some (.lst (vd.map V.int))) (h2 : Ev t2 σ H (.ref p)) (gp : H p = some (.lst (as.map V.ref))) (hE : EnsN N H as es) (hl : es.length ≤ 1000) : EvX (tMake T.C_Comments (sp_cinit T.C_Comments) [] E (tCons t1 (tCons t2 tNil))) σ H (CmV T.C_Comments vd es) :=
  EvN.x (en_cm T h1 gv (Ev.x h2 fun G eG => ⟨p, as, rfl, eG _ _ gp, hE.any.ex eG⟩) hl) fun c G e hC => ⟨c, rfl, hC.any⟩
theorem ed_cs {te : TE} {σ : L2.St} {H : Hp} {p : Addr} {vd : List Nat} (h : Ev te σ H (.ref p)) (g : H p = some (.lst ((cs vd).map V.int))) : EvD K te σ H (.list ((cs vd).map PyData.int)) := EvD.of h (.lst (sq_of g) (dp_ints _))

-- K50G
def sp_law (K : PySem.W.Frag) : Sp := fun vs H Q _ => ∃ (a : Addr) (ns : List Int), vs = [.ref a] ∧ SqL K H a (ns.map V.int) ∧ ns.length ≤ 63 ∧ ∀ H', Q (.bl true) H'
theorem ok_law (T : TX K mg) : FnOk P w K mg base CX0 6 T.a_law T.d_law ["script"] (sp_law K) := by
  refine T.F_law.ok sc_law (fun vs H Q E h => by obtain ⟨a, ns, rfl, _⟩ := h; rfl) (fun cdv A outer s0 H vs Q E hr h => ?_)
  obtain ⟨a, ns, rfl, hS, hlen, k⟩ := h
  refine ⟨_, (pss_cons (ps_set (i := 1) sc_law.nd rfl (Or.inl rfl) (pe_lst (pa_cons pe_int (pa_cons pe_int pa_nil))))
      (pss_cons (ps_set (i := 2) sc_law.nd rfl (Or.inl rfl) (pe_call (ok_law_text T) (hr.mono (by decide)) (by rfl) T.g_law_text T.F_law_text.kp T.b_law_text .nil pass0 (pa_cons (pv 1) (pa_cons (pv 0) (pa_cons pe_int pa_nil)))))
      (pss_cons (ps_set (i := 3) sc_law.nd rfl (Or.inl rfl) (pe_call (ok_law_entries T) (hr.mono (by decide)) (by rfl) T.g_law_entries T.F_law_entries.kp T.b_law_entries .nil pass0 (pa_cons (pv 1) (pa_cons (pv 0) (pa_cons pe_int pa_nil)))))
      (pss_cons (ps_if (pt_cmpR op_eq (pe_call (ok_law_draw T) (hr.mono (by decide)) (by rfl) T.g_law_draw T.F_law_draw.kp T.b_law_draw .nil pass0 (pa_cons (pv 1) (pa_cons (pv 0) (pa_cons pe_int pa_nil)))) pe_int (nomark _)) (pss_cons (ps_set (i := 4) sc_law.nd rfl (Or.inl rfl) (pe_op op_rep (pe_lst (pa_cons (pe_ix (r := rIxL K) ix_list (pe_lst (pa_cons pe_int (pa_cons pe_int (pa_cons pe_int pa_nil)))) (pe_call (ok_law_draw T) (hr.mono (by decide)) (by rfl) T.g_law_draw T.F_law_draw.kp T.b_law_draw .nil pass0 (pa_cons (pv 1) (pa_cons (pv 0) (pa_cons pe_int pa_nil)))) (fun _ _ => rfl)) pa_nil)) (pe_op op_add pe_int (pe_call (ok_law_draw T) (hr.mono (by decide)) (by rfl) T.g_law_draw T.F_law_draw.kp T.b_law_draw .nil pass0 (pa_cons (pv 1) (pa_cons (pv 0) (pa_cons pe_int pa_nil)))))))
        (pss_cons (ps_set (i := 3) sc_law.nd rfl (Or.inl rfl) (pe_op op_cat (pv 3) (pe_lst (pa_cons (pe_tup (pa_cons (pe_lst (pa_cons pe_int pa_nil)) (pa_cons (pv 4) pa_nil))) (pa_cons (pe_tup (pa_cons (pe_op op_rep (pe_call (ok_law_name T) (hr.mono (by decide)) (by rfl) T.g_law_name T.F_law_name.kp T.b_law_name .nil pass0 (pa_cons (pv 1) (pa_cons (pv 0) pa_nil))) pe_int) (pa_cons (pe_lst pa_nil) pa_nil))) pa_nil)))))
        (pss_one (ps_set (i := 2) sc_law.nd rfl (Or.inl rfl) (pe_op op_cat (pv 2) (pe_op op_rep (pe_lst (pa_cons pe_int pa_nil)) (pe_call (ok_law_draw T) (hr.mono (by decide)) (by rfl) T.g_law_draw T.F_law_draw.kp T.b_law_draw .nil pass0 (pa_cons (pv 1) (pa_cons (pv 0) (pa_cons pe_int pa_nil)))))))))) pss_nil)
      (pss_cons (ps_if (pt_cmpR op_eq (pe_call (ok_law_draw T) (hr.mono (by decide)) (by rfl) T.g_law_draw T.F_law_draw.kp T.b_law_draw .nil pass0 (pa_cons (pv 1) (pa_cons (pv 0) (pa_cons pe_int pa_nil)))) pe_int (nomark _)) (pss_one (ps_set (i := 3) sc_law.nd rfl (Or.inl rfl) (pe_op op_cat (pv 3) (pe_lc (own := [("k", 16)]) (g := gName 16) (tt := tYes) rfl sc_law.nd (pi_range1 (by rfl) T.m_range (pa_cons (pe_op op_add pe_int (pe_call (ok_law_draw T) (hr.mono (by decide)) (by rfl) T.g_law_draw T.F_law_draw.kp T.b_law_draw .nil pass0 (pa_cons (pv 1) (pa_cons (pv 0) (pa_cons pe_int pa_nil))))) pa_nil)) (blkOk_by (N := ["script", "state", "vendor", "entries", "text", "handed", "maker", "comments", "body", "before", "data", "kept", "back", "turned", "other", "second", "k", "entry", "point"]) (sc := defScope s_law) (by decide +kernel)) (fun _ _ _ _ _ => pg_name (i := 16) sc_law.nd rfl (Or.inl rfl)) (fun _ _ _ _ _ => pts_nil) (fun _ _ _ _ _ => (pe_tup (pa_cons (pe_lst (pa_cons pe_int pa_nil)) (pa_cons (pe_lst (pa_cons (pv 16) pa_nil)) pa_nil)))))))) pss_nil)
      (pss_cons (ps_setLc (i := 5) (own := [("entry", 17)]) (g := gName 17) (tt := tYes) rfl sc_law.nd rfl rfl (sw_true rfl rfl rfl (by decide +kernel)) (pi_list (pv 3)) (blkOk_by (N := ["script", "state", "vendor", "entries", "text", "handed", "maker", "comments", "body", "before", "data", "kept", "back", "turned", "other", "second", "k", "entry", "point"]) (sc := defScope s_law) (by decide +kernel)) (fun _ _ _ _ _ => pg_name (i := 17) sc_law.nd rfl (Or.inl rfl)) (fun _ _ _ _ _ => pts_nil) (fun _ _ _ _ _ => (pe_tup (pa_cons (pe_callTy (r := rListS K) call_list_of (by rfl) T.m_list PyProof.Rows.boot_list (pa_cons (pe_ix (r := rIxT K) ix_tup (pv 17) pe_int (fun _ _ => rfl)) pa_nil)) (pa_cons (pe_callTy (r := rListS K) call_list_of (by rfl) T.m_list PyProof.Rows.boot_list (pa_cons (pe_ix (r := rIxT K) ix_tup (pv 17) pe_int (fun _ _ => rfl)) pa_nil)) pa_nil)))))
      (pss_cons (ps_set (i := 6) sc_law.nd rfl (Or.inl rfl) (pe_callTy (r := rListS K) call_list_of (by rfl) T.m_list PyProof.Rows.boot_list (pa_cons (pv 2) pa_nil)))
      (pss_cons (ps_set (i := 7) sc_law.nd rfl (Or.inl rfl) (pe_make T.M_Comments (ok_Comments_init T) (hr.mono (by decide)) (by rfl) T.g_Comments T.b_Comments_init .nil pass0 (pa_cons (pv 6) (pa_cons (pv 5) pa_nil))))
      (pss_cons (ps_expr (pe_bm PySem.F.plainAttrs_list PySem.F.slot_list_append PySem.F.type_list_append mt_append (pv 6) (pa_cons pe_int pa_nil)))
      (pss_cons (ps_if (pt_truth (pv 5) (by intro _; rfl)) (pss_cons (ps_expr (pe_bm PySem.F.plainAttrs_list PySem.F.slot_list_append PySem.F.type_list_append mt_append (pe_ix (r := rIxT K) ix_tup (pe_ix (r := rIxL K) ix_list (pv 5) pe_int (fun _ _ => rfl)) pe_int (fun _ _ => rfl)) (pa_cons pe_int pa_nil)))
        (pss_one (ps_expr (pe_bm PySem.F.plainAttrs_list PySem.F.slot_list_append PySem.F.type_list_append mt_append (pe_ix (r := rIxT K) ix_tup (pe_ix (r := rIxL K) ix_list (pv 5) pe_int (fun _ _ => rfl)) pe_int (fun _ _ => rfl)) (pa_cons pe_int pa_nil))))) pss_nil)
      (pss_cons (ps_expr (pe_bm PySem.F.plainAttrs_list PySem.F.slot_list_append PySem.F.type_list_append mt_append (pv 5) (pa_cons (pe_tup (pa_cons (pe_lst (pa_cons pe_int pa_nil)) (pa_cons (pe_lst pa_nil) pa_nil))) pa_nil)))
      (pss_cons (ps_if (pt_not (pt_val (pe_call (ok_law_same T) (hr.mono (by decide)) (by rfl) T.g_law_same T.F_law_same.kp T.b_law_same .nil pass0 (pa_cons (pv 7) (pa_cons (pv 2) (pa_cons (pv 3) pa_nil)))))) (pss_one (ps_ret pe_bl)) pss_nil)
      (pss_cons (ps_set (i := 8) sc_law.nd rfl (Or.inl rfl) (pe_call (ok_write_comments T) (hr.mono (by decide)) (by rfl) T.g_write_comments T.F_write_comments.kp T.b_write_comments .nil pass0 (pa_cons (pv 7) pa_nil)))
      (pss_cons (ps_if (PW.pt (pw_or (pt_not (pt_val (pe_call (ok_law_is_bytes T) (hr.mono (by decide)) (by rfl) T.g_law_is_bytes T.F_law_is_bytes.kp T.b_law_is_bytes .nil pass0 (pa_cons (pv 8) pa_nil)))) (pw_or1 (pt_cmpR (op_neD (hu64 hr)) (pv 8) (pe_call (ok_law_comment_bytes T) (hr.mono (by decide)) (by rfl) T.g_law_comment_bytes T.F_law_comment_bytes.kp T.b_law_comment_bytes .nil pass0 (pa_cons (pv 2) (pa_cons (pv 3) pa_nil))) (nomark _))))) (pss_one (ps_ret pe_bl)) pss_nil)
      (pss_cons (ps_set (i := 9) sc_law.nd rfl (Or.inl rfl) (pe_call (ok_law_junk T) (hr.mono (by decide)) (by rfl) T.g_law_junk T.F_law_junk.kp T.b_law_junk .nil pass0 (pa_cons (pv 1) (pa_cons (pv 0) (pa_cons (pe_call (ok_law_draw T) (hr.mono (by decide)) (by rfl) T.g_law_draw T.F_law_draw.kp T.b_law_draw .nil pass0 (pa_cons (pv 1) (pa_cons (pv 0) (pa_cons pe_int pa_nil)))) pa_nil)))))
      (pss_cons (ps_set (i := 10) sc_law.nd rfl (Or.inl rfl) (pe_op op_cat (pe_op op_cat (pv 9) (pv 8)) (pe_call (ok_law_junk T) (hr.mono (by decide)) (by rfl) T.g_law_junk T.F_law_junk.kp T.b_law_junk .nil pass0 (pa_cons (pv 1) (pa_cons (pv 0) (pa_cons (pe_call (ok_law_draw T) (hr.mono (by decide)) (by rfl) T.g_law_draw T.F_law_draw.kp T.b_law_draw .nil pass0 (pa_cons (pv 1) (pa_cons (pv 0) (pa_cons pe_int pa_nil)))) pa_nil))))))
      (pss_cons (ps_set (i := 11) sc_law.nd rfl (Or.inl rfl) (pe_callTy (r := rListS K) call_list_of (by rfl) T.m_list PyProof.Rows.boot_list (pa_cons (pv 10) pa_nil)))
      (pss_cons (ps_set (i := 12) sc_law.nd rfl (Or.inl rfl) (pe_call (ok_read_comments T) (hr.mono (by decide)) (by rfl) T.g_read_comments T.F_read_comments.kp T.b_read_comments .nil pass0 (pa_cons (pv 10) (pa_cons (pe_callB (r := rLenS K) call_len_seq (by rfl) T.m_len PySem.boot_len (pa_cons (pv 9) pa_nil)) (pa_cons (pe_op op_add (pe_callB (r := rLenS K) call_len_seq (by rfl) T.m_len PySem.boot_len (pa_cons (pv 9) pa_nil)) (pe_callB (r := rLenS K) call_len_seq (by rfl) T.m_len PySem.boot_len (pa_cons (pv 8) pa_nil))) pa_nil)))))
      (pss_cons (ps_if (PW.pt (pw_or (pt_cmpR (op_neD (hu64 hr)) (pv 10) (pv 11) (nomark _)) (pw_or (pt_not (pt_val (pe_call (ok_law_same T) (hr.mono (by decide)) (by rfl) T.g_law_same T.F_law_same.kp T.b_law_same .nil pass0 (pa_cons (pv 12) (pa_cons (pv 2) (pa_cons (pv 3) pa_nil)))))) (pw_or (pt_not (pt_cmpR (op_eqO (ok_Comments_eq T) T.me_Comments_eq.at_ T.me_Comments_eq.fn T.b_Comments_eq pass0 (hr.mono (by decide))) (pv 12) (pv 7) (nomark _))) (pw_or1 (pt_cmpR (op_eqO (ok_Comments_eq T) T.me_Comments_eq.at_ T.me_Comments_eq.fn T.b_Comments_eq pass0 (hr.mono (by decide))) (pv 12) pe_int (nomark _))))))) (pss_one (ps_ret pe_bl)) pss_nil)
      (pss_cons (ps_if (PW.pt (pw_or (pt_cmpR (op_eqO (ok_Comments_eq T) T.me_Comments_eq.at_ T.me_Comments_eq.fn T.b_Comments_eq pass0 (hr.mono (by decide))) (pv 12) (pe_tup (pa_cons (pv 2) (pa_cons (pv 3) pa_nil))) (nomark _)) (pw_or1 (pt_cmpR (op_eqO (ok_Comments_eq T) T.me_Comments_eq.at_ T.me_Comments_eq.fn T.b_Comments_eq pass0 (hr.mono (by decide))) (pv 12) (pv 3) (nomark _))))) (pss_one (ps_ret pe_bl)) pss_nil)
      (pss_cons (ps_expr (pe_bm PySem.F.plainAttrs_list PySem.F.slot_list_append PySem.F.type_list_append mt_append (pv 8) (pa_cons pe_int pa_nil)))
      (pss_cons (ps_asg (pe_op op_sub pe_int (pe_ix (r := rIxL K) ix_list (pv 8) pe_int (fun _ _ => rfl))) (pg_sub (pv 8) pe_int set_list))
      (pss_cons (ps_if (pt_cmpR (op_neD (hu64 hr)) (pe_call (ok_write_comments T) (hr.mono (by decide)) (by rfl) T.g_write_comments T.F_write_comments.kp T.b_write_comments .nil pass0 (pa_cons (pv 7) pa_nil)) (pe_call (ok_law_comment_bytes T) (hr.mono (by decide)) (by rfl) T.g_law_comment_bytes T.F_law_comment_bytes.kp T.b_law_comment_bytes .nil pass0 (pa_cons (pv 2) (pa_cons (pv 3) pa_nil))) (nomark _)) (pss_one (ps_ret pe_bl)) pss_nil)
      (pss_cons (ps_setLc (i := 13) (own := [("entry", 17)]) (g := gName 17) (tt := tYes) rfl sc_law.nd rfl rfl (sw_true rfl rfl rfl (by decide +kernel)) (pi_list (pv 3)) (blkOk_by (N := ["script", "state", "vendor", "entries", "text", "handed", "maker", "comments", "body", "before", "data", "kept", "back", "turned", "other", "second", "k", "entry", "point"]) (sc := defScope s_law) (by decide +kernel)) (fun _ _ _ _ _ => pg_name (i := 17) sc_law.nd rfl (Or.inl rfl)) (fun _ _ _ _ _ => pts_nil) (fun _ _ _ _ _ => (pe_tup (pa_cons (by exact pe_lc (own := [("point", 18)]) (g := gName 18) (tt := tYes) rfl sc_law.nd (PI.k (wi' := iList K _) (pi_list (pe_ix (r := rIxT K) ix_tup (pv 17) pe_int (fun _ _ => rfl))) rfl) (blkOk_by (N := ["script", "state", "vendor", "entries", "text", "handed", "maker", "comments", "body", "before", "data", "kept", "back", "turned", "other", "second", "k", "entry", "point"]) (sc := relS _ (defScope s_law)) (by decide +kernel)) (fun _ _ _ _ _ => pg_name (i := 18) sc_law.nd rfl (Or.inl rfl)) (fun _ _ _ _ _ => pts_nil) (fun _ _ _ _ _ => (pe_op op_xor (pv 18) (pe_op op_mul pe_int (pe_callTy call_int1 (by rfl) T.m_int PyProof.Rows.boot_int (pa_cons (pe_chain op_le op_le pe_int (pv 18) pe_int) pa_nil)))))) (pa_cons (pe_ix (r := rIxT K) ix_tup (pv 17) pe_int (fun _ _ => rfl)) pa_nil)))))
      (pss_cons (ps_if (pt_cmpR op_ne (pe_cmpR (op_eqO (ok_Comments_eq T) T.me_Comments_eq.at_ T.me_Comments_eq.fn T.b_Comments_eq pass0 (hr.mono (by decide))) (pe_make T.M_Comments (ok_Comments_init T) (hr.mono (by decide)) (by rfl) T.g_Comments T.b_Comments_init .nil pass0 (pa_cons (pv 2) (pa_cons (pv 13) pa_nil))) (pv 7) (nomark _)) (pe_cmpR (op_eqD (hu64 hr)) (pv 13) (pv 3) (nomark _)) (nomark _)) (pss_one (ps_ret pe_bl)) pss_nil)
      (pss_cons (ps_set (i := 14) sc_law.nd rfl (Or.inl rfl) (pe_call (ok_law_entries T) (hr.mono (by decide)) (by rfl) T.g_law_entries T.F_law_entries.kp T.b_law_entries .nil pass0 (pa_cons (pv 1) (pa_cons (pv 0) (pa_cons pe_int pa_nil)))))
      (pss_cons (ps_set (i := 15) sc_law.nd rfl (Or.inl rfl) (pv 2))
      (pss_cons (ps_if (pt_cmpR op_eq (pe_call (ok_law_draw T) (hr.mono (by decide)) (by rfl) T.g_law_draw T.F_law_draw.kp T.b_law_draw .nil pass0 (pa_cons (pv 1) (pa_cons (pv 0) (pa_cons pe_int pa_nil)))) pe_int (nomark _)) (pss_cons (ps_set (i := 14) sc_law.nd rfl (Or.inl rfl) (pv 3))
        (pss_one (ps_set (i := 15) sc_law.nd rfl (Or.inl rfl) (pe_call (ok_law_text T) (hr.mono (by decide)) (by rfl) T.g_law_text T.F_law_text.kp T.b_law_text .nil pass0 (pa_cons (pv 1) (pa_cons (pv 0) (pa_cons pe_int pa_nil))))))) pss_nil)
      (pss_one (ps_ret (pe_cmpR op_eq (pe_cmpR (op_eqO (ok_Comments_eq T) T.me_Comments_eq.at_ T.me_Comments_eq.fn T.b_Comments_eq pass0 (hr.mono (by decide))) (pe_make T.M_Comments (ok_Comments_init T) (hr.mono (by decide)) (by rfl) T.g_Comments T.b_Comments_init .nil pass0 (pa_cons (pv 15) (pa_cons (pv 14) pa_nil))) (pv 7) (nomark _)) (pe_and (pe_cmpR (op_eqD (hu64 hr)) (pv 15) (pv 2) (nomark _)) (pe_one (pe_cmpR (op_eqD (hu64 hr)) (pv 14) (pv 3) (nomark _)))) (nomark _)))))))))))))))))))))))))))))))), ?_⟩
  refine q_asgL (xs := [.int 0, .int 0]) (el_lst (ea_cons ev_c (ea_cons ev_c ea_nil)) (by decide)) fun s H1 hs e1 gs => ?_
  have hd1 : DrS K H1 s a ns := ⟨⟨0, 0, gs⟩, scr_mk hs e1 hS⟩
  show tSeq _ _ _ [some (.ref a), some (.ref s), none, none, none, none, none, none, none, none, none, none, none, none, none, none, none, none, none] _
  refine q_asgXW (xw_text (m := 6) hd1 rfl rfl ev_c (by decide)) fun v H2 f2 hv => ?_
  obtain ⟨pw, vd, rfl, hpv, gv, hvl, hvo⟩ := hv
  have hd2 := hd1.fr f2
  have nvs : pw ≠ s := ne_st hd1.1 hpv
  refine q_asgC (vs := [.ref s, .ref a, .int ((5 : Nat) : Int)]) (ea_cons (ev_var rfl) (ea_cons (ev_var rfl) (ea_cons ev_c ea_nil))) fun H3 e3 => ⟨s, a, ns, 5, rfl, hd2.ex e3, by decide, fun pe as l H4 hpe f4 ge hE0 hel hen hbl => ?_⟩
  have f24 : Fr s H2 H4 := (Fr.ex hd2.1 e3).trans f4
  have hd4 := hd2.fr f24
  have hA : LwA s H4 pw vd pe as l 5 120 := ⟨nvs, f24.l nvs gv, ne_st (hd2.ex e3).1 hpe, ge, hE0.imp fun b _ h => h.1, hvo, by omega, hen, hel, by omega⟩
  have hvl6 := hvl
  clear f2 hpv gv hvl hvo hd2 nvs e3 hpe f4 ge hE0 hel hen hbl f24
  show tSeq _ _ _ [some (.ref a), some (.ref s), some (.ref pw), some (.ref pe), none, none, none, none, none, none, none, none, none, none, none, none, none, none, none] _
  refine qw_whenS (R := fun σ' G => ∃ (pw pe : Addr) (vd : List Nat) (as : List Addr) (l : List Ne) (z4 : Option V), σ' = [some (.ref a), some (.ref s), some (.ref pw), some (.ref pe), z4, none, none, none, none, none, none, none, none, none, none, none, none, none, none] ∧ Fr s H4 G ∧ LwA s G pw vd pe as l 7 2500) (wt_eq (wi_draw (n := 5) hd4 rfl rfl ev_c (by decide) (by decide)) fun H5 f5 => wi_ev f5.2 ev_c) (fun _ D' H5 f5 kk => ?_) (fun _ H5 f5 => ⟨pw, pe, vd, as, l, none, rfl, f5, hA.fr f5 (by decide) (by decide)⟩) fun σ' H5 hR => ?_
  · have hd5 := hd4.fr f5
    have hA5 := hA.fr f5 (Nat.le_refl _) (Nat.le_refl _)
    refine qw_asgL (wl_repD (q := fun z => ∃ x : Nat, z = (x : Int) ∧ x ∈ [233, 65, 8364]) (wi_ixL (K := K) (xs := [233, 65, 8364]) hd5.1 (el_lst (ea_cons ev_c (ea_cons ev_c (ea_cons ev_c ea_nil))) (by decide)) (fun H6 f6 => wi_draw (n := 3) (hd5.fr f6) rfl rfl ev_c (by decide) (by decide)) (fun z hz => by obtain ⟨j, rfl, hj⟩ := hz; exact ⟨j, rfl, by show j < 3; omega⟩)) (fun H6 f6 => wi_op (g := fun i j => i + j) (wi_ev f6.2 ev_c) fun H7 f7 => wi_draw (n := 300) ((hd5.fr f6).fr f7) rfl rfl ev_c (by decide) (by decide)) (fun z hz => by obtain ⟨_, _, rfl, ⟨d, rfl, hd⟩, rfl⟩ := hz; omega)) fun p4 xs H6 hp4 f6 g4 hP => ?_
    obtain ⟨_, n4, ⟨x4, rfl, hx4⟩, ⟨_, _, rfl, ⟨d4, rfl, hd4'⟩, hn4⟩, hn1000, rfl⟩ := hP
    rw [cs_rep] at g4
    have hx4o : ptOk x4 := by
      simp only [List.mem_cons, List.not_mem_nil, or_false] at hx4
      unfold ptOk
      omega
    obtain ⟨tx, htx⟩ : ∃ tx, List.replicate n4 x4 = tx := ⟨_, rfl⟩
    have htl : tx.length ≤ 500 := by rw [← htx, List.length_replicate]; omega
    have hto : ∀ t ∈ tx, ptOk t := fun t ht => by rw [← htx] at ht; rw [(List.mem_replicate.mp ht).2]; exact hx4o
    rw [htx] at g4
    have n4s := ne_st hd5.1 hp4
    have hd6 := hd5.fr f6
    obtain ⟨a1, a2, a3, a4, a5, a6, a7, a8, a9, a10⟩ := hA5.fr f6 (Nat.le_refl _) (Nat.le_refl _)
    show tSeq _ _ _ [some (.ref a), some (.ref s), some (.ref pw), some (.ref pe), some (.ref p4), none, none, none, none, none, none, none, none, none, none, none, none, none, none] _
    refine q_asgXW (xw_cat (l := l) (P := fun l2 => ∃ nm, l2 = [([65], tx), (nm, [])] ∧ nm.length ≤ 270 ∧ nm ≠ [] ∧ ∀ c ∈ nm, 32 ≤ c ∧ c ≤ 126 ∧ c ≠ 61) hd6.1 (ev_var rfl) a3 a4 a5 (by omega) (fun H7 f7 => EvXW.imp (xw_two (s := s) (S1 := fun v G => EtN s v G ([65], tx)) (S2 := fun v G => ∃ nm, EtN s v G (nm, []) ∧ nm.length ≤ 270 ∧ nm ≠ [] ∧ ∀ c ∈ nm, 32 ≤ c ∧ c ≤ 126 ∧ c ≠ 61) (EvXW.imp (EvX.toW (ex_tupF (ap_l (xs := (cs [65]).map V.int) (el_lst (ea_cons ev_c ea_nil) (by decide)) (ap_ev (x := .ref p4) (ev_var rfl) ap_nil)) (fun vs G hR => by obtain ⟨_, _, rfl, _, _, _, rfl, rfl⟩ := hR; exact Nat.le_of_ble_eq_true rfl)) f7.2) fun v G fG hS => ?_) (fun v G G' f h => h.fr f) (fun v G G' e ⟨nm, h, hh⟩ => ⟨nm, h.ex e, hh⟩) (fun H8 f8 => EvXW.imp (xw_pair (s := s) (S2 := fun v G => ∃ p, v = .ref p ∧ p ≠ s ∧ G p = some (.lst ((cs []).map V.int))) (xw_nrep ((hd6.fr f7).fr f8) rfl rfl) (fun v G G' f ⟨p, xs, h1, h2, h3, h4⟩ => ⟨p, xs, h1, h2, f.l h2 h3, h4⟩) (fun v G G' e ⟨p, h1, h2, h3⟩ => ⟨p, h1, h2, e _ _ h3⟩) (fun H9 f9 Q0 q0 => (el_lst ea_nil (by decide)) H9 (Ex.refl _) _ fun p H10 hp e10 gp => q0 _ H10 (Fr.ex f9.2 e10) ⟨p, rfl, ne_st f9.2 hp, gp⟩)) fun v G fG hS => ?_)) fun v G fG hS => ?_) (fun l2 h => by obtain ⟨nm, rfl, _⟩ := h; exact Nat.le_of_ble_eq_true rfl)) fun v H7 f7 hS => ?_
    · obtain ⟨p, vs, G0, rfl, hp, gp, eG, q1, _, rfl, hq1, gq1, _, rfl, rfl⟩ := hS
      exact ⟨p, q1, p4, rfl, ne_st f7.2 hp, gp, ne_st f7.2 hq1, eG _ _ gq1, n4s, (f7.trans fG).l n4s g4⟩
    · obtain ⟨p, _, _, rfl, hp, gp, ⟨q1, nm, rfl, nq1, gq1, h3⟩, q2, rfl, nq2, gq2⟩ := hS
      exact ⟨nm, ⟨p, q1, q2, rfl, ne_st f8.2 hp, gp, nq1, gq1, nq2, gq2⟩, h3⟩
    · obtain ⟨p, _, _, rfl, hp, gp, ⟨t1, b1, c1, rfl, k1, k2, k3, k4, k5, k6⟩, nm, ⟨t2, b2, c2, rfl, m1, m2, m3, m4, m5, m6⟩, h3⟩ := hS
      exact ⟨p, [t1, t2], [([65], tx), (nm, [])], rfl, gp, ((EnsN.nil (N := fun b => b ≠ s)).snoc (e := neI ([65], tx)) k1 k2 k3 k4 k5 k6).snoc (e := neI (nm, [])) m1 m2 m3 m4 m5 m6, nm, rfl, h3⟩
    obtain ⟨r, bs, _, rfl, nrs, gr, hF, nm, rfl, hnl, hne, hno⟩ := hS
    have hd7 := hd6.fr f7
    refine sw_asgL (wl_catR (xs := (cs vd).map V.int) hd7.1 (ev_var rfl) a1 (f7.l a1 a2) (fun H8 f8 => wl_rep (x := .int ((86 : Nat) : Int)) (σ := [some (.ref a), some (.ref s), some (.ref pw), some (.ref r), some (.ref p4), none, none, none, none, none, none, none, none, none, none, none, none, none, none]) f8.2 (el_lst (ea_cons ev_c ea_nil) (Nat.le_of_ble_eq_true rfl)) (fun H9 f9 => wi_draw (n := 600) ((hd7.fr f8).fr f9) rfl rfl ev_c (by decide) (by decide)) (fun z hz => by obtain ⟨d, rfl, hd⟩ := hz; omega)) (fun ys h => by obtain ⟨n, _, hn, rfl⟩ := h; rw [List.length_map, cs_len, List.length_replicate]; omega)) fun pw2 zs H8 hpw2 f8 gw2 hz => ?_
    obtain ⟨_, ⟨n8, ⟨d8, hd8, hd8'⟩, _, rfl⟩, rfl⟩ := hz
    rw [cs_rep, map_cs2] at gw2
    refine kk _ H8 ⟨pw2, r, vd ++ List.replicate n8 86, as ++ bs, l ++ [([65], tx), (nm, [])], some (.ref p4), rfl, f5.trans (f6.trans (f7.trans f8)), ne_st hd7.1 hpw2, gw2, nrs, f8.l nrs gr, hF.kp (Kp.fr f8 fun h => h rfl), fun t ht => ?_, ?_, fun e he => ?_, ?_, ?_⟩
    · rcases List.mem_append.mp ht with ht | ht
      · exact a6 t ht
      · rw [(List.mem_replicate.mp ht).2]
        unfold ptOk
        omega
    · have hv0 : vd.length ≤ 6 := hvl6
      rw [List.length_append, List.length_replicate]
      omega
    · rcases List.mem_append.mp he with he | he
      · exact a8 e he
      · rcases List.mem_cons.mp he with rfl | he
        · exact ⟨fun c hc => by have hc : c ∈ [65] := hc; rw [List.mem_singleton.mp hc]; decide, List.cons_ne_nil _ _, hto, (by show 1 ≤ 1000; decide), (by show tx.length ≤ 1000; omega)⟩
        · rw [List.mem_singleton.mp he]
          exact ⟨hno, hne, (fun t ht => by cases ht), (by show nm.length ≤ 1000; omega), (by show 0 ≤ 1000; decide)⟩
    · rw [List.length_append]
      show _ + 2 ≤ 7
      omega
    · have hul := utfB_len tx
      have e1 : (entB ([65], tx)).length = 5 + 1 + (utfB tx).length := entB_bd
      have e2 : (entB (nm, [])).length = 5 + nm.length + 0 := entB_bd
      rw [entsB_app, List.length_append, show ([([65], tx), (nm, [])] : List Ne) = [([65], tx)] ++ [(nm, [])] from rfl, entsB_app, List.length_append, entsB_one, entsB_one, e1, e2]
      omega
  obtain ⟨pw, pe, vd, as, l, z4, rfl, f45, hA⟩ := hR
  have hd5 := hd4.fr f45
  refine qw_whenS (R := fun σ' G => ∃ (pe : Addr) (as : List Addr) (l : List Ne), σ' = [some (.ref a), some (.ref s), some (.ref pw), some (.ref pe), z4, none, none, none, none, none, none, none, none, none, none, none, none, none, none] ∧ Fr s H5 G ∧ LwA s G pw vd pe as l 300 6000) (wt_eq (wi_draw (n := 40) hd5 rfl rfl ev_c (by decide) (by decide)) fun H6 f6 => wi_ev f6.2 ev_c) (fun _ D' H6 f6 kk => ?_) (fun _ H6 f6 => ⟨pe, as, l, rfl, f6, hA.fr f6 (by decide) (by decide)⟩) fun σ' H6 hR => ?_
  · have hd6 := hd5.fr f6
    obtain ⟨a1, a2, a3, a4, a5, a6, a7, a8, a9, a10⟩ := hA.fr f6 (Nat.le_refl _) (Nat.le_refl _)
    refine s_asgXW (xw_cat (l := l) (P := fun l2 => l2.length ≤ 270 ∧ (∀ e ∈ l2, NeOk e) ∧ (entsB l2).length ≤ 10 * l2.length) hd6.1 (ev_var rfl) a3 a4 a5 (by omega) (fun H7 f7 => fun Q0 q0 => tlc_rngWW (p := fun z => ∃ d : Nat, z = (d : Int) ∧ d ≤ 270) (fun Q1 q1 => wi_op (g := fun i j => i + j) (wi_ev f7.2 ev_c) (fun H8 f8 => wi_draw (n := 200) ((hd6.fr f7).fr f8) rfl rfl ev_c (by decide) (by decide)) Q1 fun z H8 f8 hz => q1 z H8 f8 (by obtain ⟨_, _, rfl, ⟨d, rfl, hd⟩, rfl⟩ := hz; exact ⟨70 + d, by omega, by omega⟩)) (fun i hi => by obtain ⟨d, rfl, hd⟩ := hi; omega) fun n H8 hn f8 Dl hDl => ⟨fun i H' => ∃ (bs : List Addr) (l2 : List Ne), Fr s H8 H' ∧ H' Dl = some (.lst (bs.map V.ref)) ∧ l2.length = i ∧ EnsN (fun b => b ≠ s ∧ b ≠ Dl) H' bs (l2.map neI) ∧ (∀ e ∈ l2, NeOk e) ∧ (entsB l2).length ≤ 10 * l2.length, ⟨[], [], Fr.ex f8.2 (Ex.new hDl), upd_same, rfl, EnsN.nil, (fun e he => by cases he), Nat.le_refl _⟩, fun i H' hi h => ⟨rfl, ?_⟩, fun H' h => ?_⟩) (fun l2 h => by omega)) fun v H7 f7 hS => ?_
    · obtain ⟨bs, l2, f, gD, hel, hE, hb, hbl⟩ := h
      obtain ⟨d, rfl, hd270⟩ := hn
      have hi270 : i < 270 := by omega
      have nDs := ne_st f8.2 hDl
      refine ex_go (ex_tupF (ap_l (xs := (cs [66]).map V.int) (el_lst (ea_cons ev_c ea_nil) (by decide)) (ap_l (xs := (cs [i]).map V.int) (el_lst (ea_cons (ev_var rfl) ea_nil) (Nat.le_of_ble_eq_true rfl)) ap_nil)) (fun vs G hR => by obtain ⟨_, _, rfl, _, _, _, _, rfl, _, _, rfl⟩ := hR; exact Nat.le_of_ble_eq_true rfl)) fun v H9 e9 hv => ?_
      obtain ⟨pt, vs, G0, rfl, hpt, gpt, eG, q1, _, rfl, hq1, g1, q2, _, rfl, hq2, g2, rfl⟩ := hv
      have nn : ∀ {b : Addr}, H' b = none → b ≠ s ∧ b ≠ Dl := fun h => ⟨ne_st f.2 h, ne_known h (by rw [gD]; exact fun z => nomatch z)⟩
      have hul := utfB_len [i]
      have hu1 : [i].length = 1 := rfl
      have hbd : (entB ([66], [i])).length = 5 + 1 + (utfB [i]).length := entB_bd
      refine ⟨_, e9 _ _ gD, sz_lt (by rw [List.length_map, hE.1, List.length_map, hel]; omega), bs ++ [pt], l2 ++ [([66], [i])], (f.tex e9).mut hDl nDs, by rw [upd_same, List.map_append]; rfl, by rw [List.length_append, hel]; rfl, ?_, fun e he => ?_, ?_⟩
      · rw [List.map_append]
        exact (hE.kp ((Kp.ex e9).mut fun h => absurd rfl h.2)).snoc (e := neI ([66], [i])) (nn hpt) (by rw [upd_ne (nn hpt).2]; exact gpt) (nn hq1) (by rw [upd_ne (nn hq1).2]; exact eG _ _ g1) (nn hq2) (by rw [upd_ne (nn hq2).2]; exact eG _ _ g2)
      · rcases List.mem_append.mp he with he | he
        · exact hb e he
        · rw [List.mem_singleton.mp he]
          exact ⟨fun c hc => by have hc : c ∈ [66] := hc; rw [List.mem_singleton.mp hc]; decide, List.cons_ne_nil _ _, (fun t ht => by have ht : t ∈ [i] := ht; rw [List.mem_singleton.mp ht]; unfold ptOk; omega), (by show 1 ≤ 1000; decide), (by show 1 ≤ 1000; decide)⟩
      · rw [entsB_app, entsB_one, List.length_append, hbd, List.length_append]
        show _ ≤ 10 * (l2.length + 1)
        omega
    · obtain ⟨bs, l2, f, gD, hel, hE, hb, hbl⟩ := h
      obtain ⟨d, rfl, hd270⟩ := hn
      exact q0 _ _ (f8.trans f) ⟨Dl, bs, l2, rfl, gD, hE.imp fun b _ h => h.1, by omega, hb, hbl⟩
    obtain ⟨r, bs, l2, rfl, nrs, gr, hF, h270, hok, hbl⟩ := hS
    refine kk _ H7 ⟨r, as ++ bs, l ++ l2, rfl, f6.trans f7, a1, f7.l a1 a2, nrs, gr, hF, a6, a7, fun e he => ?_, by rw [List.length_append]; omega, by rw [entsB_app, List.length_append]; omega⟩
    rcases List.mem_append.mp he with he | he
    · exact a8 e he
    · exact hok e he
  obtain ⟨pe, as, l, rfl, f56, hA⟩ := hR
  have hdB := hd5.fr f56
  clear hd1 hd4 f45 hd5 f56
  generalize H6 = HB at *
  have hO := hA.cm (by decide) (by decide)
  obtain ⟨nvs, gv, nes, ge, hE, hvo, hvl, hlo, hll, hlb⟩ := hA
  show tSeq _ _ _ [some (.ref a), some (.ref s), some (.ref pw), some (.ref pe), z4, none, none, none, none, none, none, none, none, none, none, none, none, none, none] _
  have hbl : ∀ e ∈ l.map neI, e.1.length ≤ 1000 ∧ e.2.length ≤ 1000 := fun e he => by
    obtain ⟨e', he', rfl⟩ := List.mem_map.mp he
    obtain ⟨_, _, _, h4, h5⟩ := hlo e' he'
    exact ⟨by show (cs e'.1).length ≤ 1000; rw [cs_len]; exact h4, by show (cs e'.2).length ≤ 1000; rw [cs_len]; exact h5⟩
  -- handed
  refine q_goT (tlc_lstG (K := K) (Ev.s (ev_var rfl) (sq_of ge)) fun p1 H8 e8 hp1 ph hph => ⟨fun i H' => ∃ hs : List Addr, Ex H8 H' ∧ H' ph = some (.lst (hs.map V.ref)) ∧ EnsN (fun b => HB b = none ∧ b ≠ ph) H' hs ((l.take i).map neI), ⟨[], Ex.new hph, upd_same, EnsN.nil⟩, fun i H' h => by obtain ⟨_, ex, _⟩ := h; exact ex_l ex hp1, fun i x H' hx h => ⟨rfl, ?_⟩, fun H9 h => ?_⟩)
  · obtain ⟨hs, ex, gD, hEp⟩ := h
    obtain ⟨ai, e, hai, hei, rfl, hi, _, pn, p2, q0, _, q1, _, q2⟩ := (hE.ex (e8.trans ex)).get hx
    obtain ⟨e', he', rfl⟩ := ne_at hei
    refine ex_go (ex_tupF (ap_l (xs := (cs e'.1).map V.int) (el_of (K := K) (Ev.s (ev_atT (K := K) (n := 0) (v := .ref pn) (ev_var (i := 17) rfl) (st_of q0) ev_c (at_of (j := 0) rfl rfl)) (sq_of q1))) (ap_l (xs := (cs e'.2).map V.int) (el_of (K := K) (Ev.s (ev_atT (K := K) (n := 1) (v := .ref p2) (ev_var (i := 17) rfl) (st_of q0) ev_c (at_of (j := 1) rfl rfl)) (sq_of q2))) ap_nil)) (fun vs G hR => by obtain ⟨_, _, rfl, _, _, _, _, rfl, _, _, rfl⟩ := hR; exact Nat.le_of_ble_eq_true rfl)) fun v H9 e9 hv => ?_
    obtain ⟨pt, vs, G0, rfl, hpt, gpt, eG, r1, _, rfl, hr1, g1, r2, _, rfl, hr2, g2, rfl⟩ := hv
    have eBx := e8.trans ex
    have nn : ∀ {b : Addr}, H' b = none → HB b = none ∧ b ≠ ph := fun h => ⟨fresh_back eBx h, ne_known h (by rw [gD]; exact fun z => nomatch z)⟩
    refine ⟨_, e9 _ _ gD, sz_lt (by rw [List.length_map, hEp.1, List.length_map, List.length_take]; omega), hs ++ [pt], Ex.mut (ex.trans e9) hph, by rw [upd_same, List.map_append]; rfl, ?_⟩
    rw [take_at he', List.map_append]
    exact (hEp.kp ((Kp.ex e9).mut fun h => absurd rfl h.2)).snoc (e := neI e') (nn hpt) (by rw [upd_ne (nn hpt).2]; exact gpt) (nn hr1) (by rw [upd_ne (nn hr1).2]; exact eG _ _ g1) (nn hr2) (by rw [upd_ne (nn hr2).2]; exact eG _ _ g2)
  obtain ⟨hs, exh, gh, hH0⟩ := h
  rw [List.length_map, hE.1, List.length_map, List.take_length] at hH0
  have eB9 := e8.trans exh
  have hphB := fresh_back e8 hph
  clear exh hp1 hph e8
  show tSeq _ _ _ [some (.ref a), some (.ref s), some (.ref pw), some (.ref pe), z4, some (.ref ph), none, none, none, none, none, none, none, none, none, none, none, none, none] _
  refine q_asgL (xs := (cs vd).map V.int) (el_of (K := K) (Ev.s (ev_var rfl) (sq_of (eB9 _ _ gv)))) fun pm H10 hpm e10 gm => ?_
  have hH1 : EnsN (fun b => HB b = none ∧ b ≠ ph ∧ b ≠ pm ∧ H10 b ≠ none) H10 hs (l.map neI) := (hH0.imp (M := fun b => HB b = none ∧ b ≠ ph ∧ b ≠ pm) fun b hb h => ⟨h.1, h.2, (ne_known hpm hb).symm⟩).ex e10 |>.imp fun b hb h => ⟨h.1, h.2.1, h.2.2, hb⟩
  have nmh : ph ≠ pm := (ne_known hpm (by rw [gh]; exact fun z => nomatch z)).symm
  refine q_asgN (en_cm T (ev_var rfl) gm (Ev.x (ev_var rfl) fun G eG => ⟨ph, hs, rfl, (e10.trans eG) _ _ gh, hH1.any.ex eG⟩) (by rw [List.length_map]; omega)) fun c H11 hc e11 hC0 => ?_
  show tSeq _ _ _ [some (.ref a), some (.ref s), some (.ref pw), some (.ref pe), z4, some (.ref ph), some (.ref pm), some (.ref c), none, none, none, none, none, none, none, none, none, none, none] _
  refine q_app (v := .int 5) (e11 _ _ gm) (ev_var rfl) ev_c (by rw [List.length_map, cs_len]; omega) fun H12 e12 => ?_
  have e1012 := e11.trans e12
  have eB12 : Ex HB (upd H12 pm (.lst ((cs vd).map V.int ++ [.int 5]))) := Ex.mut ((eB9.trans e10).trans e1012) (fresh_back eB9 hpm)
  have hC12 := (hC0.ex e12).kp ((Kp.ex (Ex.refl H12)).mut (p := pm) (o := .lst ((cs vd).map V.int ++ [.int 5])) fun h => by rw [gm] at h; cases h)
  have hH12 := hH1.kp ((Kp.ex e1012).mut (p := pm) (o := .lst ((cs vd).map V.int ++ [.int 5])) fun h => absurd rfl h.2.2.1)
  have gh12 : upd H12 pm (.lst ((cs vd).map V.int ++ [.int 5])) ph = some (.lst (hs.map V.ref)) := by
    rw [upd_ne nmh]
    exact (e10.trans e1012) _ _ gh
  generalize upd H12 pm (.lst ((cs vd).map V.int ++ [.int 5])) = H13 at *
  refine q_whenS (R := fun σ' G => σ' = [some (.ref a), some (.ref s), some (.ref pw), some (.ref pe), z4, some (.ref ph), some (.ref pm), some (.ref c), none, none, none, none, none, none, none, none, none, none, none] ∧ Ex HB G ∧ CmN (fun b => H10 b = none) T.C_Comments G c (cs vd) (l.map neI) ∧ G ph = some (.lst (hs.map V.ref))) (et_tru (ev_var rfl) (sq_of gh12)) (fun hb D' H14 e14 kk => ?_) (fun _ H14 e14 => ⟨rfl, eB12.trans e14, hC12.ex e14, e14 _ _ gh12⟩) fun σ' H14 hR => ?_
  · have hne : hs ≠ [] := by rintro rfl; cases hb
    have hpos : 0 < hs.length := List.length_pos_iff.mpr hne
    have hsa : hs[0]? = some (hs[0]'hpos) := List.getElem?_eq_getElem _
    obtain ⟨t0, e, hai, hei, hrf, _, _, pn, p2, q0, n1, q1, n2, q2⟩ := (hH12.ex e14).get (i := 0) (x := .ref _) (by rw [List.getElem?_map, hsa]; rfl)
    have hbe := hbl e (List.mem_of_getElem? hei)
    have gh14 := e14 _ _ gh12
    have hC14 := hC12.ex e14
    have ntp : t0 ≠ p2 := by rintro rfl; rw [q0] at q2; cases q2
    refine q_app (v := .int 7) q2 (ev_atT (K := K) (n := 1) (v := .ref p2) (ev_at (K := K) (n := 0) (v := .ref t0) (Ev.s (ev_var rfl) (sq_of gh14)) ev_c (at_of (j := 0) rfl (by rw [List.getElem?_map, hai]; rfl))) (st_of q0) ev_c (at_of (j := 1) rfl rfl)) ev_c (by rw [List.length_map]; omega) fun H15 e15 => ?_
    have g1' : ∃ ys : List V, upd H15 p2 (.lst (e.2.map V.int ++ [.int 7])) pn = some (.lst ys) ∧ ys.length ≤ 2000 := by
      by_cases h : pn = p2
      · rw [h]
        exact ⟨_, upd_same, by rw [List.length_append, List.length_map]; show _ + 1 ≤ _; omega⟩
      · exact ⟨_, by rw [upd_ne h]; exact e15 _ _ q1, by rw [List.length_map]; omega⟩
    have gt0 : upd H15 p2 (.lst (e.2.map V.int ++ [.int 7])) t0 = some (.tup [.ref pn, .ref p2]) := by rw [upd_ne ntp]; exact e15 _ _ q0
    have gh15 : upd H15 p2 (.lst (e.2.map V.int ++ [.int 7])) ph = some (.lst (hs.map V.ref)) := by rw [upd_ne (Ne.symm n2.2.1)]; exact e15 _ _ gh14
    have eB15 : Ex HB (upd H15 p2 (.lst (e.2.map V.int ++ [.int 7]))) := Ex.mut ((eB12.trans e14).trans e15) n2.1
    have hC15 := hC14.kp ((Kp.ex e15).mut (p := p2) (o := .lst (e.2.map V.int ++ [.int 7])) fun h => absurd h n2.2.2.2)
    generalize upd H15 p2 (.lst (e.2.map V.int ++ [.int 7])) = H16 at *
    obtain ⟨ys, gy, hyl⟩ := g1'
    refine s_app (v := .int 7) gy (ev_atT (K := K) (n := 0) (v := .ref pn) (ev_at (K := K) (n := 0) (v := .ref t0) (Ev.s (ev_var rfl) (sq_of gh15)) ev_c (at_of (j := 0) rfl (by rw [List.getElem?_map, hai]; rfl))) (st_of gt0) ev_c (at_of (j := 0) rfl rfl)) ev_c (by omega) fun H17 e17 => kk _ _ ⟨rfl, Ex.mut (eB15.trans e17) n1.1, hC15.kp ((Kp.ex e17).mut fun h => absurd h n1.2.2.2), by rw [upd_ne (Ne.symm n1.2.1)]; exact e17 _ _ gh15⟩
  obtain ⟨rfl, eB14, hC14, gh14⟩ := hR
  clear hH12 hC12 gh12 eB12
  refine q_appO gh14 (ev_var rfl) (ex_tupF (ap_l (xs := (cs [65]).map V.int) (el_lst (ea_cons ev_c ea_nil) (by decide)) (ap_l (xs := []) (el_lst ea_nil (by decide)) ap_nil)) (fun vs G hR => by obtain ⟨_, _, rfl, _, _, _, _, rfl, _, _, rfl⟩ := hR; exact Nat.le_of_ble_eq_true rfl)) (by rw [List.length_map, hH1.1, List.length_map]; omega) fun v H15 e15 _ => ?_
  have eBD : Ex HB (upd H15 ph (.lst (hs.map V.ref ++ [v]))) := Ex.mut (eB14.trans e15) hphB
  have hk10 : H10 ph ≠ none := by rw [e10 _ _ gh]; exact fun z => nomatch z
  have hs10 : H10 s ≠ none := by
    obtain ⟨k1, k2, g⟩ := (hdB.ex (eB9.trans e10)).1
    rw [g]
    exact fun z => nomatch z
  have hCD : CmN (fun b => b ≠ s) T.C_Comments (upd H15 ph (.lst (hs.map V.ref ++ [v]))) c (cs vd) (l.map neI) := (hC14.kp ((Kp.ex e15).mut fun h => absurd h hk10)).imp fun b _ h => ne_known h hs10
  have hdD := hdB.ex eBD
  have gvD := eBD _ _ gv
  have geD := eBD _ _ ge
  have hED := hE.ex eBD
  clear eB14 hC14 gh14 hC0 hk10 hs10 hH0 hH1 e15 e11 e10 eB9 hphB gm hpm hc nmh gh e12 e1012 eBD hdB gv ge hE
  generalize upd H15 ph (.lst (hs.map V.ref ++ [v])) = HD at *
  clear hS hlen
  have st := hdD.1
  have hCf : ∀ {G : Hp}, Fr s HD G → CmN (fun b => b ≠ s) T.C_Comments G c (cs vd) (l.map neI) := fun f => hCD.kp (Kp.fr f fun h => h rfl)
  have hEf : ∀ {G : Hp}, Fr s HD G → EnsN (fun b => b ≠ s) G as (l.map neI) := fun f => hED.kp (Kp.fr f fun h => h rfl)
  have gvf : ∀ {G : Hp}, Fr s HD G → G pw = some (.lst ((cs vd).map V.int)) := fun f => f.l nvs gvD
  have gef : ∀ {G : Hp}, Fr s HD G → G pe = some (.lst (as.map V.ref)) := fun f => f.l nes geD
  have hdf : ∀ {G : Hp}, Fr s HD G → DrS K G s a ns := fun f => hdD.fr f
  have hcm := hO.2.2.2.2
  have hlm : (l.map neI).length ≤ 1000 := by rw [List.length_map]; omega
  have hcl := cm_len vd l
  show tSeq _ _ _ [some (.ref a), some (.ref s), some (.ref pw), some (.ref pe), z4, some (.ref ph), some (.ref pm), some (.ref c), none, none, none, none, none, none, none, none, none, none, none] _
  refine q_when (b := false) (et_is (et_not (et_B (ev_lsm (ev_var rfl) (ev_var rfl) (ev_var rfl) hCD gvD geD hED hbl))) rfl) (fun hb => by cases hb) fun _ G1 e1 => ?_
  have f1 : Fr s HD G1 := Fr.ex st e1
  refine q_asgL (el_wcm (ev_var rfl) (hCf f1) hO) fun pb G2 hpb e2 gb => ?_
  have nbs : pb ≠ s := ne_st f1.2 hpb
  have hpbD : HD pb = none := f1.fresh hpb
  have f2 := f1.tex e2
  refine q_when (b := false) (et_is (et_or (a := false) (b := false) (et_is (et_not (et_B (ev_isbytes (K := K) (ds := cmB vd l) (Ev.r (ev_var rfl) gb) (by omega) (cmB_lt hO)))) rfl) fun _ => et_is (et_test (ev_neI (K := K) (Ev.s (ev_var rfl) (sq_of gb)) (EvR.s (EvL.r (el_lcb (ev_var rfl) (ev_var rfl) (gvf f2) (gef f2) (hEf f2) hO))))) (by rw [decide_eq_true rfl]; rfl)) rfl) (fun hb => by cases hb) fun _ G3 e3 => ?_
  have f3 := f2.tex e3
  have gb3 := e3 _ _ gb
  show tSeq _ _ _ [some (.ref a), some (.ref s), some (.ref pw), some (.ref pe), z4, some (.ref ph), some (.ref pm), some (.ref c), some (.ref pb), none, none, none, none, none, none, none, none, none, none] _
  refine qw_asgL (wl_junk (hdf f3) rfl rfl (wi_draw (n := 4) (hdf f3) rfl rfl ev_c (by decide) (by decide)) (fun z hz => by obtain ⟨d, rfl, hd⟩ := hz; omega)) fun pf xs G4 hpf f4 gf hP => ?_
  obtain ⟨ds, rfl, hdl, _, _⟩ := hP
  have nfs : pf ≠ s := ne_st f3.2 hpf
  have f04 := f3.trans f4
  have gb4 := f4.l nbs gb3
  refine qw_asgL (wl_cat f04.2 (el_cat (Ev.r (ev_var rfl) gf) (Ev.r (ev_var rfl) gb4) (by rw [List.length_map, cs_len, List.length_map, cs_len]; omega)) (fun G f => wl_junk (hdf (f04.trans f)) rfl rfl (wi_draw (n := 4) (hdf (f04.trans f)) rfl rfl ev_c (by decide) (by decide)) (fun z hz => by obtain ⟨d, rfl, hd⟩ := hz; omega)) (fun ys h => by obtain ⟨d2, rfl, h2, _⟩ := h; rw [List.length_append, List.length_map, cs_len, List.length_map, cs_len, List.length_map, cs_len]; omega)) fun pd xs G5 hpd f5 gd hP => ?_
  obtain ⟨_, ⟨ds2, rfl, hdl2, _, _⟩, rfl⟩ := hP
  rw [map_cs2, map_cs2, List.append_assoc] at gd
  have f05 := f04.trans f5
  have gb5 := f5.l nbs gb4
  have gf5 := f5.l nfs gf
  show tSeq _ _ _ [some (.ref a), some (.ref s), some (.ref pw), some (.ref pe), z4, some (.ref ph), some (.ref pm), some (.ref c), some (.ref pb), some (.ref pf), some (.ref pd), none, none, none, none, none, none, none, none] _
  refine q_asgL (el_of (K := K) (Ev.s (ev_var rfl) (sq_of gd))) fun pk G6 hpk e6 gk => ?_
  have f06 := f05.tex e6
  refine q_asgN (en_rcm (C := T.C_Comments) (pre := ds) (post := ds2) (vd := vd) (l := l) (ev_var rfl) (Ev.is (ev_lenS (K := K) (Ev.s (ev_var rfl) (sq_of (e6 _ _ gf5)))) (by rw [List.length_map, cs_len])) (Ev.is (ev_I0 (g := fun i j => .int (i + j)) (ev_lenS (K := K) (Ev.s (ev_var rfl) (sq_of (e6 _ _ gf5)))) (ev_lenS (K := K) (Ev.s (ev_var rfl) (sq_of (e6 _ _ gb5))))) (congrArg V.int (by rw [List.length_map, cs_len, List.length_map, cs_len]; omega))) (sq_of (e6 _ _ gd)) hO hdl) fun cb G7 hcb e7 hB => ?_
  have f07 := f06.tex e7
  show tSeq _ _ _ [some (.ref a), some (.ref s), some (.ref pw), some (.ref pe), z4, some (.ref ph), some (.ref pm), some (.ref c), some (.ref pb), some (.ref pf), some (.ref pd), some (.ref pk), some (.ref cb), none, none, none, none, none, none] _
  refine q_when (b := false) (et_is (et_or (a := false) (b := false) (et_is (et_test (ev_neI (K := K) (Ev.s (ev_var rfl) (sq_of ((e6.trans e7) _ _ gd))) (Ev.s (ev_var rfl) (sq_of (e7 _ _ gk))))) (by rw [decide_eq_true rfl]; rfl)) fun _ => et_or (a := false) (b := false) (et_is (et_not (et_B (ev_lsm (ev_var rfl) (ev_var rfl) (ev_var rfl) hB (gvf f07) (gef f07) (hEf f07) hbl))) rfl) fun _ => et_or (a := false) (b := false) (et_is (et_not (et_test (ev_ceq T (ex_cmv (ev_var rfl) hB) (ex_cmv (ev_var rfl) (hCf f07))))) (by rw [decide_eq_true rfl, eqv_same]; rfl)) fun _ => et_is (et_test (ev_ceqN T (ex_cmv (ev_var rfl) hB) (Ev.x (S := fun y _ => y = .int 3) ev_c fun _ _ => rfl) (fun y G hy H1 e => by rw [hy]; exact .base (.int _)) T.ki_Comments_int T.nf_Comments_int)) rfl) rfl) (fun hb => by cases hb) fun _ G8 e8 => ?_
  refine q_when (b := false) (et_is (et_or (a := false) (b := false) (et_is (et_test (ev_ceqN T (ex_cmv (ev_var rfl) (hB.ex e8)) (ex_tupF (ap_ev (x := .ref pw) (ev_var rfl) (ap_ev (x := .ref pe) (ev_var rfl) ap_nil)) (fun vs G hR => by obtain ⟨_, rfl, _, rfl, rfl⟩ := hR; exact Nat.le_of_ble_eq_true rfl)) (fun y G hy => by obtain ⟨p, vs, _, rfl, _, gp, _⟩ := hy; exact isi_tup gp) T.ki_Comments_tuple T.nf_Comments_tuple)) rfl) fun _ => et_is (et_test (ev_ceqN T (ex_cmv (ev_var rfl) (hB.ex e8)) (Ev.x (S := fun y G => ∃ p xs, y = .ref p ∧ G p = some (.lst xs)) (ev_var rfl) fun G eG => ⟨pe, _, rfl, eG _ _ (e8 _ _ (gef f07))⟩) (fun y G hy => by obtain ⟨p, xs, rfl, gp⟩ := hy; exact isi_lst gp) T.ki_Comments_list T.nf_Comments_list)) rfl) rfl) (fun hb => by cases hb) fun _ G9 e9 => ?_
  have f09 := f07.tex (e8.trans e9)
  have gb9 := (e6.trans (e7.trans (e8.trans e9))) _ _ gb5
  clear e6 e7 e8 e9 hB hcb gd gk gf5 gb5 f05 f06 f07 gb4 f04 gf gb3 f3 e3 f2 e2 f1 e1 f4 f5 hpb gb hpf hpd hpk
  show tSeq _ _ _ [some (.ref a), some (.ref s), some (.ref pw), some (.ref pe), z4, some (.ref ph), some (.ref pm), some (.ref c), some (.ref pb), some (.ref pf), some (.ref pd), some (.ref pk), some (.ref cb), none, none, none, none, none, none] _
  refine q_app (v := .int ((1 : Nat) : Int)) gb9 (ev_var rfl) ev_c (by rw [List.length_map, cs_len]; omega) fun G10 e10 => ?_
  have f10 : Fr s HD (upd G10 pb (.lst ((cs (cmB vd l)).map V.int ++ [.int ((1 : Nat) : Int)]))) := (f09.tex e10).mut hpbD nbs
  obtain ⟨x0, hx0⟩ : ∃ x0, (cmB vd l ++ [1])[0]? = some x0 := ⟨_, List.getElem?_eq_getElem (by rw [List.length_append]; show 0 < _ + 1; omega)⟩
  have hbb : (cs (cmB vd l)).map V.int ++ [.int ((1 : Nat) : Int)] = (cs (cmB vd l ++ [1])).map V.int := by rw [cs_append, List.map_append]; rfl
  rw [hbb] at f10 ⊢
  have gb10 : upd G10 pb (.lst ((cs (cmB vd l ++ [1])).map V.int)) pb = some (.lst ((cs (cmB vd l ++ [1])).map V.int)) := upd_same
  have hbl1 : 0 < ((cs (cmB vd l ++ [1])).map V.int).length := by rw [List.length_map, cs_len, List.length_append]; show 0 < _ + 1; omega
  generalize upd G10 pb (.lst ((cs (cmB vd l ++ [1])).map V.int)) = G11 at *
  generalize cmB vd l ++ [1] = bb at *
  refine qw_setLR (s := s) (P := fun _ => True) (fun Q0 k0 => (ev_I0 (g := fun i j => .int (i - j)) ev_c (ev_at (K := K) (n := 0) (v := .int (x0 : Int)) (Ev.s (ev_var rfl) (sq_of gb10)) ev_c (at_of (j := 0) rfl (at_int (cs_at hx0))))) G11 (Ex.refl _) _ fun G12 e12 => k0 _ G12 (Fr.ex f10.2 e12) trivial) nbs gb10 (fun _ => ev_var rfl) (fun _ => ev_c (v := .int ((0 : Nat) : Int))) hbl1 fun v G12 _ f12 => ?_
  have f13 : Fr s HD (upd G12 pb (.lst (((cs bb).map V.int).set 0 v))) := (f10.trans f12).mut hpbD nbs
  generalize upd G12 pb (.lst (((cs bb).map V.int).set 0 v)) = G13 at *
  clear gb9 e10 f10 hbb gb10 hbl1 f12 hx0 f09
  refine q_when (b := false) (et_is (et_test (ev_neI (K := K) (EvR.s (EvL.r (el_wcm (ev_var rfl) (hCf f13) hO))) (EvR.s (EvL.r (el_lcb (ev_var rfl) (ev_var rfl) (gvf f13) (gef f13) (hEf f13) hO))))) (by rw [decide_eq_true rfl]; rfl)) (fun hb => by cases hb) fun _ G14 e14 => ?_
  have f14 := f13.tex e14
  -- turned
  refine q_goT (tlc_lstG (K := K) (Ev.s (ev_var rfl) (sq_of (gef f14))) fun p1 G15 e15 hp1 pt hpt => ⟨fun i H' => ∃ hs : List Addr, Ex G15 H' ∧ H' pt = some (.lst (hs.map V.ref)) ∧ EnsN (fun b => b ≠ pt) H' hs (((l.map neI).take i).map trE), ⟨[], Ex.new hpt, upd_same, EnsN.nil⟩, fun i H' h => by obtain ⟨_, ex, _⟩ := h; exact ex_l ex hp1, fun i x H' hx h => ⟨rfl, ?_⟩, fun G16 h => ?_⟩)
  · obtain ⟨hs, ex, gD, hEp⟩ := h
    obtain ⟨ai, e, hai, hei, rfl, hi, _, pn, p2, q0, _, q1, _, q2⟩ := ((hEf f14).ex (e15.trans ex)).get hx
    have hbe := hbl e (List.mem_of_getElem? hei)
    have npt : p2 ≠ pt := by
      obtain ⟨_, e2, _, hei2, hrf2, _, _, pn', p2', r0, _, _, _, r2⟩ := ((hEf f14).ex e15).get hx
      injection hrf2 with hrf2
      subst hrf2
      rw [ex _ _ r0] at q0
      injection q0 with q0
      injection q0 with q0
      injection q0 with _ q0
      injection q0 with q0 _
      injection q0 with q0
      subst q0
      rintro rfl
      rw [r2] at hpt
      cases hpt
    refine ex_go (ex_tupF (ap_l (xs := (e.1.map trI).map V.int) (el_lcS (K := K) (xs := e.1.map V.int) _ (Ev.s (ev_atT (K := K) (n := 0) (v := .ref pn) (ev_var (i := 17) rfl) (st_of q0) ev_c (at_of (j := 0) rfl rfl)) (sq_of q1)) (by rw [List.length_map, List.length_map, List.length_map]) (by rw [List.length_map, List.length_map]; omega) (fun _ => rfl) fun i x H5 e5 hx => ?_) (ap_ev (x := .ref p2) (ev_atT (K := K) (n := 1) (v := .ref p2) (ev_var (i := 17) rfl) (st_of q0) ev_c (at_of (j := 1) rfl rfl)) ap_nil)) (fun vs G hR => by obtain ⟨_, _, rfl, _, _, _, rfl, rfl⟩ := hR; exact Nat.le_of_ble_eq_true rfl)) fun v G16 e16 hv => ?_
    · obtain ⟨n, hn, hi, rfl⟩ := int_at hx
      exact ⟨.int (trI n), by rw [List.getElem?_map, List.getElem?_map, hn]; rfl, ev_I0 (g := fun i j => .int (Builtin.bitXor i j)) (ev_var (i := 18) rfl) (ev_I ev_c (ev_intb (ev_chain (g := fun i j => decide (i ≤ j)) (g' := fun i j => decide (i ≤ j)) ev_c (ev_var (i := 18) rfl) ev_c)) (.inl (by decide)))⟩
    · obtain ⟨t9, vs, G0, rfl, ht9, gt9, eG, r1, _, rfl, hr1, g1, _, rfl, rfl⟩ := hv
      have nn : ∀ {b : Addr}, H' b = none → b ≠ pt := fun h => ne_known h (by rw [gD]; exact fun z => nomatch z)
      refine ⟨_, e16 _ _ gD, sz_lt (by rw [List.length_map, hEp.1, List.length_map, List.length_take]; omega), hs ++ [t9], Ex.mut (ex.trans e16) hpt, by rw [upd_same, List.map_append]; rfl, ?_⟩
      rw [take_at hei, List.map_append]
      exact (hEp.kp ((Kp.ex e16).mut fun h => absurd rfl h)).snoc (e := trE e) (nn ht9) (by rw [upd_ne (nn ht9)]; exact gt9) (nn hr1) (by rw [upd_ne (nn hr1)]; exact eG _ _ g1) npt (by rw [upd_ne npt]; exact e16 _ _ q2)
  obtain ⟨ts, ext, gt, hT⟩ := h
  rw [List.length_map, hED.1, List.take_length] at hT
  have f16 := f14.tex (e15.trans ext)
  clear ext hp1 hpt e15 e14 f13 f14
  have htl : ((l.map neI).map trE).length ≤ 1000 := by rw [List.length_map]; exact hlm
  generalize (l.map neI).map trE = tl at *
  show tSeq _ _ _ [some (.ref a), some (.ref s), some (.ref pw), some (.ref pe), z4, some (.ref ph), some (.ref pm), some (.ref c), some (.ref pb), some (.ref pf), some (.ref pd), some (.ref pk), some (.ref cb), some (.ref pt), none, none, none, none, none] _
  refine q_when (b := false) (et_is (et_test (ev_ne (x := .bl (PyData.eqv (enD tl) (enD (l.map neI)))) (y := .bl (PyData.eqv (enD tl) (enD (l.map neI)))) (Ev.is (ev_ceq T (en_cmX T (ev_var rfl) (gvf f16) (ev_var rfl) gt hT htl) (ex_cmv (ev_var rfl) (hCf f16))) (by rw [decide_eq_true rfl, Bool.true_and])) (ev_eqDv (ed_ens (ev_var rfl) gt hT) (ed_ens (ev_var rfl) (gef f16) (hEf f16)) (shaped_en _) (shaped_en _)) rfl)) (by rw [decide_eq_true rfl]; rfl)) (fun hb => by cases hb) fun _ G17 e17 => ?_
  have f17 := f16.tex e17
  clear gt hT f16 e17
  refine q_asgC (vs := [.ref s, .ref a, .int ((2 : Nat) : Int)]) (ea_cons (ev_var rfl) (ea_cons (ev_var rfl) (ea_cons ev_c ea_nil))) fun G18 e18 => ⟨s, a, ns, 2, rfl, (hdf f17).ex e18, by decide, fun po bs l2 G19 hpo f19 go hF0 hl2 _ _ => ?_⟩
  have f09 := (f17.tex e18).trans f19
  have nos : po ≠ s := ne_st ((hdf f17).ex e18).1 hpo
  refine q_asg (v := .ref pw) (ev_var rfl) fun G20 e20 => ?_
  have f20 := f09.tex e20
  have go20 := e20 _ _ go
  have hF20 := (hF0.imp (M := fun b => b ≠ s) fun b _ h => h.1).ex e20
  clear f17 e18 hpo f19 go hF0 f09 e20
  show tSeq _ _ _ [some (.ref a), some (.ref s), some (.ref pw), some (.ref pe), z4, some (.ref ph), some (.ref pm), some (.ref c), some (.ref pb), some (.ref pf), some (.ref pd), some (.ref pk), some (.ref cb), some (.ref pt), some (.ref po), some (.ref pw), none, none, none] _
  refine qw_whenS (R := fun σ' G => ∃ (po p2 : Addr) (vd2 : List Nat) (bs : List Addr) (l2 : List Ne), σ' = [some (.ref a), some (.ref s), some (.ref pw), some (.ref pe), z4, some (.ref ph), some (.ref pm), some (.ref c), some (.ref pb), some (.ref pf), some (.ref pd), some (.ref pk), some (.ref cb), some (.ref pt), some (.ref po), some (.ref p2), none, none, none] ∧ Fr s HD G ∧ G p2 = some (.lst ((cs vd2).map V.int)) ∧ G po = some (.lst (bs.map V.ref)) ∧ EnsN (fun _ => True) G bs (l2.map neI) ∧ l2.length ≤ 1000) (wt_eq (wi_draw (n := 2) (hdf f20) rfl rfl ev_c (by decide) (by decide)) fun G21 f21 => wi_ev f21.2 ev_c) (fun _ D' G21 f21 kk => ?_) (fun _ G21 f21 => ?_) fun σ' G21 hR => ?_
  · have f021 := f20.trans f21
    refine q_asg (v := .ref pe) (ev_var rfl) fun G22 e22 => ?_
    have f22 := f021.tex e22
    refine s_asgXW (xw_text (m := 2) (hdf f22) rfl rfl ev_c (by decide)) fun v G23 f23 hv => ?_
    obtain ⟨p2, vd2, rfl, _, g2, _, _⟩ := hv
    have f023 := f22.trans f23
    exact kk _ G23 ⟨pe, p2, vd2, as, l, rfl, f023, g2, gef f023, (hEf f023).any, by omega⟩
  · have f021 := f20.trans f21
    exact ⟨po, pw, vd, bs, l2, rfl, f021, gvf f021, f21.l nos go20, (hF20.kp (Kp.fr f21 fun h => h rfl)).any, by omega⟩
  obtain ⟨po, p2, vd2, bs, l2, rfl, f21, g2, go, hF, hl2⟩ := hR
  refine s_ret (v := .bl true) (Ev.is (ev_eq (x := .bl (decide (cs vd2 = cs vd) && PyData.eqv (enD (l2.map neI)) (enD (l.map neI)))) (y := .bl (decide (cs vd2 = cs vd) && PyData.eqv (enD (l2.map neI)) (enD (l.map neI)))) (ev_ceq T (en_cmX T (ev_var rfl) g2 (ev_var rfl) go hF (by rw [List.length_map]; exact hl2)) (ex_cmv (ev_var rfl) (hCf f21))) (Ev.is (ev_andV (ev_eqDv (ed_cs (ev_var rfl) g2) (ed_cs (ev_var rfl) (gvf f21)) (shaped_ints _) (shaped_ints _)) fun _ => ev_eqDv (ed_ens (ev_var rfl) go hF) (ed_ens (ev_var rfl) (gef f21) (hEf f21)) (shaped_en _) (shaped_en _)) (by rw [eqv_cs])) rfl) (by rw [decide_eq_true rfl])) fun G22 _ => k G22

-- K50C
end
theorem ml1 {α : Type} : ∀ {us : List α}, us.length = 1 → ∃ x0, us = [x0]
  | [x0], _ => ⟨x0, rfl⟩
theorem ml2 {α : Type} : ∀ {us : List α}, us.length = 2 → ∃ x0 x1, us = [x0, x1]
  | [x0, x1], _ => ⟨x0, x1, rfl⟩
theorem ml3 {α : Type} : ∀ {us : List α}, us.length = 3 → ∃ x0 x1 x2, us = [x0, x1, x2]
  | [x0, x1, x2], _ => ⟨x0, x1, x2, rfl⟩
set_option maxHeartbeats 0 in
theorem all_mk {l : PySem.W.OpenLaw} {w : World} {K : PySem.W.Frag} {h : Heap} {mg : Str → Option Value} {fa : Addr} {f1 f2 f3 f4 f5 f6 f7 f8 f9 f10 f11 f12 f13 f14 f15 f16 f17 f18 f19 f20 f21 f22 f23 f24 f25 f26 f27 f28 f29 C_Comments : Addr} (X : K.In h) (G : h.Ns mainGlobals mg) (hfa : mg "law" = some (.ref fa))
    {od1 an1 : Option Addr} {sl1 : Array (Option Value)} {oc1 dc1 pm1 cd1 ct1 : Value} {kV1 : Value} {od2 an2 : Option Addr} {sl2 : Array (Option Value)} {oc2 dc2 pm2 cd2 ct2 : Value} {kV2 : Value} {od3 an3 : Option Addr} {sl3 : Array (Option Value)} {oc3 dc3 pm3 cd3 ct3 : Value} {kV3 : Value} {od4 an4 : Option Addr} {sl4 : Array (Option Value)} {oc4 dc4 pm4 cd4 ct4 : Value} {kV4 : Value} {od5 an5 : Option Addr} {sl5 : Array (Option Value)} {oc5 dc5 pm5 cd5 ct5 : Value} {kV5 : Value} {od6 an6 : Option Addr} {sl6 : Array (Option Value)} {oc6 dc6 pm6 cd6 ct6 : Value} {kV6 : Value} {od7 an7 : Option Addr} {sl7 : Array (Option Value)} {oc7 dc7 pm7 cd7 ct7 : Value} {kV7 : Value} {od8 an8 : Option Addr} {sl8 : Array (Option Value)} {oc8 dc8 pm8 cd8 ct8 : Value} {kV8 : Value} {od9 an9 : Option Addr} {sl9 : Array (Option Value)} {oc9 dc9 pm9 cd9 ct9 : Value} {kV9 : Value} {od10 an10 : Option Addr} {sl10 : Array (Option Value)} {oc10 dc10 pm10 cd10 ct10 : Value} {kV10 : Value} {od11 an11 : Option Addr} {sl11 : Array (Option Value)} {oc11 dc11 pm11 cd11 ct11 : Value} {kV11 : Value} {od12 an12 : Option Addr} {sl12 : Array (Option Value)} {oc12 dc12 pm12 cd12 ct12 : Value} {kV12 : Value} {od13 an13 : Option Addr} {sl13 : Array (Option Value)} {oc13 dc13 pm13 cd13 ct13 : Value} {kV13 : Value} {od14 an14 : Option Addr} {sl14 : Array (Option Value)} {oc14 dc14 pm14 cd14 ct14 : Value} {kV14 : Value} {od15 an15 : Option Addr} {sl15 : Array (Option Value)} {oc15 dc15 pm15 cd15 ct15 : Value} {kV15 : Value} {od16 an16 : Option Addr} {sl16 : Array (Option Value)} {oc16 dc16 pm16 cd16 ct16 : Value} {kV16 : Value} {od17 an17 : Option Addr} {sl17 : Array (Option Value)} {oc17 dc17 pm17 cd17 ct17 : Value} {kV17 : Value} {od18 an18 : Option Addr} {sl18 : Array (Option Value)} {oc18 dc18 pm18 cd18 ct18 : Value} {kV18 : Value} {od19 an19 : Option Addr} {sl19 : Array (Option Value)} {oc19 dc19 pm19 cd19 ct19 : Value} {kV19 : Value} {od20 an20 : Option Addr} {sl20 : Array (Option Value)} {oc20 dc20 pm20 cd20 ct20 : Value} {kV20 : Value} {od21 an21 : Option Addr} {sl21 : Array (Option Value)} {oc21 dc21 pm21 cd21 ct21 : Value} {kV21 : Value} {od22 an22 : Option Addr} {sl22 : Array (Option Value)} {oc22 dc22 pm22 cd22 ct22 : Value} {kV22 : Value} {od23 an23 : Option Addr} {sl23 : Array (Option Value)} {oc23 dc23 pm23 cd23 ct23 : Value} {kV23 : Value} {od24 an24 : Option Addr} {sl24 : Array (Option Value)} {oc24 dc24 pm24 cd24 ct24 : Value} {kV24 : Value} {od25 an25 : Option Addr} {sl25 : Array (Option Value)} {oc25 dc25 pm25 cd25 ct25 : Value} {kV25 : Value} {od26 an26 : Option Addr} {sl26 : Array (Option Value)} {oc26 dc26 pm26 cd26 ct26 : Value} {kV26 : Value} {od27 an27 : Option Addr} {sl27 : Array (Option Value)} {oc27 dc27 pm27 cd27 ct27 : Value} {kV27 : Value} {od28 an28 : Option Addr} {sl28 : Array (Option Value)} {oc28 dc28 pm28 cd28 ct28 : Value} {kV28 : Value} {od29 an29 : Option Addr} {sl29 : Array (Option Value)} {oc29 dc29 pm29 cd29 ct29 : Value} {kV29 : Value} {u_EQUALS : Value}
    (a1 : PySem.W.nsIn K mainGlobals "write_utf8" = some (some (.ref f1)))
    (l1 : K.lookup f1 = some ⟨oc1, od1, .func (PySem.W.fnOf "write_utf8" "write_utf8" (defArgs s_write_utf8) (defBody s_write_utf8) (defScope s_write_utf8) .none kV1 dc1 pm1 an1 cd1 ct1), sl1⟩) (c1 : PySem.W.codeIn K cd1 "write_utf8" = true) (k1 : PySem.W.keepIn K (.ref f1) = true)
    (a2 : PySem.W.nsIn K mainGlobals "read_utf8" = some (some (.ref f2)))
    (l2 : K.lookup f2 = some ⟨oc2, od2, .func (PySem.W.fnOf "read_utf8" "read_utf8" (defArgs s_read_utf8) (defBody s_read_utf8) (defScope s_read_utf8) .none kV2 dc2 pm2 an2 cd2 ct2), sl2⟩) (c2 : PySem.W.codeIn K cd2 "read_utf8" = true) (k2 : PySem.W.keepIn K (.ref f2) = true)
    (a3 : PySem.W.nsIn K mainGlobals "_point_count" = some (some (.ref f3)))
    (l3 : K.lookup f3 = some ⟨oc3, od3, .func (PySem.W.fnOf "_point_count" "_point_count" (defArgs s_point_count) (defBody s_point_count) (defScope s_point_count) .none kV3 dc3 pm3 an3 cd3 ct3), sl3⟩) (c3 : PySem.W.codeIn K cd3 "_point_count" = true) (k3 : PySem.W.keepIn K (.ref f3) = true)
    (a4 : PySem.W.nsIn K mainGlobals "_least_first" = some (some (.ref f4)))
    (l4 : K.lookup f4 = some ⟨oc4, od4, .func (PySem.W.fnOf "_least_first" "_least_first" (defArgs s_least_first) (defBody s_least_first) (defScope s_least_first) .none kV4 dc4 pm4 an4 cd4 ct4), sl4⟩) (c4 : PySem.W.codeIn K cd4 "_least_first" = true) (k4 : PySem.W.keepIn K (.ref f4) = true)
    (a5 : PySem.W.nsIn K mainGlobals "_point_bytes" = some (some (.ref f5)))
    (l5 : K.lookup f5 = some ⟨oc5, od5, .func (PySem.W.fnOf "_point_bytes" "_point_bytes" (defArgs s_point_bytes) (defBody s_point_bytes) (defScope s_point_bytes) .none kV5 dc5 pm5 an5 cd5 ct5), sl5⟩) (c5 : PySem.W.codeIn K cd5 "_point_bytes" = true) (k5 : PySem.W.keepIn K (.ref f5) = true)
    (a6 : PySem.W.nsIn K mainGlobals "_count_told" = some (some (.ref f6)))
    (l6 : K.lookup f6 = some ⟨oc6, od6, .func (PySem.W.fnOf "_count_told" "_count_told" (defArgs s_count_told) (defBody s_count_told) (defScope s_count_told) .none kV6 dc6 pm6 an6 cd6 ct6), sl6⟩) (c6 : PySem.W.codeIn K cd6 "_count_told" = true) (k6 : PySem.W.keepIn K (.ref f6) = true)
    (a7 : PySem.W.nsIn K mainGlobals "_read_point" = some (some (.ref f7)))
    (l7 : K.lookup f7 = some ⟨oc7, od7, .func (PySem.W.fnOf "_read_point" "_read_point" (defArgs s_read_point) (defBody s_read_point) (defScope s_read_point) .none kV7 dc7 pm7 an7 cd7 ct7), sl7⟩) (c7 : PySem.W.codeIn K cd7 "_read_point" = true) (k7 : PySem.W.keepIn K (.ref f7) = true)
    (a8 : PySem.W.nsIn K mainGlobals "little_bytes" = some (some (.ref f8)))
    (l8 : K.lookup f8 = some ⟨oc8, od8, .func (PySem.W.fnOf "little_bytes" "little_bytes" (defArgs s_little_bytes) (defBody s_little_bytes) (defScope s_little_bytes) .none kV8 dc8 pm8 an8 cd8 ct8), sl8⟩) (c8 : PySem.W.codeIn K cd8 "little_bytes" = true) (k8 : PySem.W.keepIn K (.ref f8) = true)
    (a9 : PySem.W.nsIn K mainGlobals "little_number" = some (some (.ref f9)))
    (l9 : K.lookup f9 = some ⟨oc9, od9, .func (PySem.W.fnOf "little_number" "little_number" (defArgs s_little_number) (defBody s_little_number) (defScope s_little_number) .none kV9 dc9 pm9 an9 cd9 ct9), sl9⟩) (c9 : PySem.W.codeIn K cd9 "little_number" = true) (k9 : PySem.W.keepIn K (.ref f9) = true)
    (a10 : PySem.W.nsIn K mainGlobals "check_inside" = some (some (.ref f10)))
    (l10 : K.lookup f10 = some ⟨oc10, od10, .func (PySem.W.fnOf "check_inside" "check_inside" (defArgs s_check_inside) (defBody s_check_inside) (defScope s_check_inside) .none kV10 dc10 pm10 an10 cd10 ct10), sl10⟩) (c10 : PySem.W.codeIn K cd10 "check_inside" = true) (k10 : PySem.W.keepIn K (.ref f10) = true)
    (a11 : PySem.W.findIn K (.ref C_Comments) "__init__" = some (some (.ref f11))) (i11 : PySem.W.isFn K (.ref f11) = true)
    (l11 : K.lookup f11 = some ⟨oc11, od11, .func (PySem.W.fnOf "__init__" "Comments.__init__" (defArgs s_Comments_init) (defBody s_Comments_init) (defScope s_Comments_init) .none kV11 dc11 pm11 an11 cd11 ct11), sl11⟩) (c11 : PySem.W.codeIn K cd11 "Comments.__init__" = true) (k11 : PySem.W.keepIn K (.ref f11) = true)
    (a12 : PySem.W.findIn K (.ref C_Comments) "__eq__" = some (some (.ref f12))) (i12 : PySem.W.isFn K (.ref f12) = true)
    (l12 : K.lookup f12 = some ⟨oc12, od12, .func (PySem.W.fnOf "__eq__" "Comments.__eq__" (defArgs s_Comments_eq) (defBody s_Comments_eq) (defScope s_Comments_eq) .none kV12 dc12 pm12 an12 cd12 ct12), sl12⟩) (c12 : PySem.W.codeIn K cd12 "Comments.__eq__" = true) (k12 : PySem.W.keepIn K (.ref f12) = true)
    (a13 : PySem.W.nsIn K mainGlobals "read_comments" = some (some (.ref f13)))
    (l13 : K.lookup f13 = some ⟨oc13, od13, .func (PySem.W.fnOf "read_comments" "read_comments" (defArgs s_read_comments) (defBody s_read_comments) (defScope s_read_comments) .none kV13 dc13 pm13 an13 cd13 ct13), sl13⟩) (c13 : PySem.W.codeIn K cd13 "read_comments" = true) (k13 : PySem.W.keepIn K (.ref f13) = true)
    (a14 : PySem.W.nsIn K mainGlobals "write_comments" = some (some (.ref f14)))
    (l14 : K.lookup f14 = some ⟨oc14, od14, .func (PySem.W.fnOf "write_comments" "write_comments" (defArgs s_write_comments) (defBody s_write_comments) (defScope s_write_comments) .none kV14 dc14 pm14 an14 cd14 ct14), sl14⟩) (c14 : PySem.W.codeIn K cd14 "write_comments" = true) (k14 : PySem.W.keepIn K (.ref f14) = true)
    (a15 : PySem.W.nsIn K mainGlobals "_read_length" = some (some (.ref f15)))
    (l15 : K.lookup f15 = some ⟨oc15, od15, .func (PySem.W.fnOf "_read_length" "_read_length" (defArgs s_read_length) (defBody s_read_length) (defScope s_read_length) .none kV15 dc15 pm15 an15 cd15 ct15), sl15⟩) (c15 : PySem.W.codeIn K cd15 "_read_length" = true) (k15 : PySem.W.keepIn K (.ref f15) = true)
    (a16 : PySem.W.nsIn K mainGlobals "_read_entry" = some (some (.ref f16)))
    (l16 : K.lookup f16 = some ⟨oc16, od16, .func (PySem.W.fnOf "_read_entry" "_read_entry" (defArgs s_read_entry) (defBody s_read_entry) (defScope s_read_entry) .none kV16 dc16 pm16 an16 cd16 ct16), sl16⟩) (c16 : PySem.W.codeIn K cd16 "_read_entry" = true) (k16 : PySem.W.keepIn K (.ref f16) = true)
    (a17 : PySem.W.nsIn K mainGlobals "_law_is_integer" = some (some (.ref f17)))
    (l17 : K.lookup f17 = some ⟨oc17, od17, .func (PySem.W.fnOf "_law_is_integer" "_law_is_integer" (defArgs s_law_is_integer) (defBody s_law_is_integer) (defScope s_law_is_integer) .none kV17 dc17 pm17 an17 cd17 ct17), sl17⟩) (c17 : PySem.W.codeIn K cd17 "_law_is_integer" = true) (k17 : PySem.W.keepIn K (.ref f17) = true)
    (a18 : PySem.W.nsIn K mainGlobals "_law_refill" = some (some (.ref f18)))
    (l18 : K.lookup f18 = some ⟨oc18, od18, .func (PySem.W.fnOf "_law_refill" "_law_refill" (defArgs s_law_refill) (defBody s_law_refill) (defScope s_law_refill) .none kV18 dc18 pm18 an18 cd18 ct18), sl18⟩) (c18 : PySem.W.codeIn K cd18 "_law_refill" = true) (k18 : PySem.W.keepIn K (.ref f18) = true)
    (a19 : PySem.W.nsIn K mainGlobals "_law_draw" = some (some (.ref f19)))
    (l19 : K.lookup f19 = some ⟨oc19, od19, .func (PySem.W.fnOf "_law_draw" "_law_draw" (defArgs s_law_draw) (defBody s_law_draw) (defScope s_law_draw) .none kV19 dc19 pm19 an19 cd19 ct19), sl19⟩) (c19 : PySem.W.codeIn K cd19 "_law_draw" = true) (k19 : PySem.W.keepIn K (.ref f19) = true)
    (a20 : PySem.W.nsIn K mainGlobals "_law_junk" = some (some (.ref f20)))
    (l20 : K.lookup f20 = some ⟨oc20, od20, .func (PySem.W.fnOf "_law_junk" "_law_junk" (defArgs s_law_junk) (defBody s_law_junk) (defScope s_law_junk) .none kV20 dc20 pm20 an20 cd20 ct20), sl20⟩) (c20 : PySem.W.codeIn K cd20 "_law_junk" = true) (k20 : PySem.W.keepIn K (.ref f20) = true)
    (a21 : PySem.W.nsIn K mainGlobals "_law_is_bytes" = some (some (.ref f21)))
    (l21 : K.lookup f21 = some ⟨oc21, od21, .func (PySem.W.fnOf "_law_is_bytes" "_law_is_bytes" (defArgs s_law_is_bytes) (defBody s_law_is_bytes) (defScope s_law_is_bytes) .none kV21 dc21 pm21 an21 cd21 ct21), sl21⟩) (c21 : PySem.W.codeIn K cd21 "_law_is_bytes" = true) (k21 : PySem.W.keepIn K (.ref f21) = true)
    (a22 : PySem.W.nsIn K mainGlobals "_law_text" = some (some (.ref f22)))
    (l22 : K.lookup f22 = some ⟨oc22, od22, .func (PySem.W.fnOf "_law_text" "_law_text" (defArgs s_law_text) (defBody s_law_text) (defScope s_law_text) .none kV22 dc22 pm22 an22 cd22 ct22), sl22⟩) (c22 : PySem.W.codeIn K cd22 "_law_text" = true) (k22 : PySem.W.keepIn K (.ref f22) = true)
    (a23 : PySem.W.nsIn K mainGlobals "_law_name" = some (some (.ref f23)))
    (l23 : K.lookup f23 = some ⟨oc23, od23, .func (PySem.W.fnOf "_law_name" "_law_name" (defArgs s_law_name) (defBody s_law_name) (defScope s_law_name) .none kV23 dc23 pm23 an23 cd23 ct23), sl23⟩) (c23 : PySem.W.codeIn K cd23 "_law_name" = true) (k23 : PySem.W.keepIn K (.ref f23) = true)
    (a24 : PySem.W.nsIn K mainGlobals "_law_entries" = some (some (.ref f24)))
    (l24 : K.lookup f24 = some ⟨oc24, od24, .func (PySem.W.fnOf "_law_entries" "_law_entries" (defArgs s_law_entries) (defBody s_law_entries) (defScope s_law_entries) .none kV24 dc24 pm24 an24 cd24 ct24), sl24⟩) (c24 : PySem.W.codeIn K cd24 "_law_entries" = true) (k24 : PySem.W.keepIn K (.ref f24) = true)
    (a25 : PySem.W.nsIn K mainGlobals "_law_utf8" = some (some (.ref f25)))
    (l25 : K.lookup f25 = some ⟨oc25, od25, .func (PySem.W.fnOf "_law_utf8" "_law_utf8" (defArgs s_law_utf8) (defBody s_law_utf8) (defScope s_law_utf8) .none kV25 dc25 pm25 an25 cd25 ct25), sl25⟩) (c25 : PySem.W.codeIn K cd25 "_law_utf8" = true) (k25 : PySem.W.keepIn K (.ref f25) = true)
    (a26 : PySem.W.nsIn K mainGlobals "_law_little" = some (some (.ref f26)))
    (l26 : K.lookup f26 = some ⟨oc26, od26, .func (PySem.W.fnOf "_law_little" "_law_little" (defArgs s_law_little) (defBody s_law_little) (defScope s_law_little) .none kV26 dc26 pm26 an26 cd26 ct26), sl26⟩) (c26 : PySem.W.codeIn K cd26 "_law_little" = true) (k26 : PySem.W.keepIn K (.ref f26) = true)
    (a27 : PySem.W.nsIn K mainGlobals "_law_comment_bytes" = some (some (.ref f27)))
    (l27 : K.lookup f27 = some ⟨oc27, od27, .func (PySem.W.fnOf "_law_comment_bytes" "_law_comment_bytes" (defArgs s_law_comment_bytes) (defBody s_law_comment_bytes) (defScope s_law_comment_bytes) .none kV27 dc27 pm27 an27 cd27 ct27), sl27⟩) (c27 : PySem.W.codeIn K cd27 "_law_comment_bytes" = true) (k27 : PySem.W.keepIn K (.ref f27) = true)
    (a28 : PySem.W.nsIn K mainGlobals "_law_same" = some (some (.ref f28)))
    (l28 : K.lookup f28 = some ⟨oc28, od28, .func (PySem.W.fnOf "_law_same" "_law_same" (defArgs s_law_same) (defBody s_law_same) (defScope s_law_same) .none kV28 dc28 pm28 an28 cd28 ct28), sl28⟩) (c28 : PySem.W.codeIn K cd28 "_law_same" = true) (k28 : PySem.W.keepIn K (.ref f28) = true)
    (a29 : PySem.W.nsIn K mainGlobals "law" = some (some (.ref f29)))
    (l29 : K.lookup f29 = some ⟨oc29, od29, .func (PySem.W.fnOf "law" "law" (defArgs s_law) (defBody s_law) (defScope s_law) .none kV29 dc29 pm29 an29 cd29 ct29), sl29⟩) (c29 : PySem.W.codeIn K cd29 "law" = true) (k29 : PySem.W.keepIn K (.ref f29) = true)
    (aC_Comments : PySem.W.nsIn K mainGlobals "Comments" = some (some (.ref C_Comments)))
    (pg_Comments : PySem.W.plainGet K C_Comments Str.empty = true) (hd_Comments : PySem.W.hasDictIn K C_Comments = true) (po_Comments : PySem.W.plainOver K C_Comments = true) (sa_Comments : PySem.W.findIn K (.ref C_Comments) "__setattr__" = some (some (.builtin "object.__setattr__"))) (mk_Comments : PySem.W.makesIn K C_Comments = true) (kc_Comments : PySem.W.keepIn K (.ref C_Comments) = true)
    (n_Comments_vendor : PySem.W.findIn K (.ref C_Comments) "vendor" = some none)
    (n_Comments_entries : PySem.W.findIn K (.ref C_Comments) "entries" = some none)
    (ty_Commentsha : PySem.W.findIn K (.ref C_Comments) "__class__" = some (some (.builtin "object.__class__"))) (ty_Commentshn : PySem.W.specialIn K (.builtin "object.__class__") "__get__" = some (some (.builtin "getset_descriptor.__get__"))) (ty_Commentsht : PySem.W.takesIn K (.builtin "object.__class__") = some true) (ty_Commentshm : PySem.W.mroIn K C_Comments (.type "object") = some true)
    (yt_Comments : PySem.W.typeIn K (.ref C_Comments) = some (.type "type"))
    (yz_Comments : PySem.W.subIn K (.ref C_Comments) (.ref C_Comments) = some true)
    (ys_Comments_int : PySem.W.subIn K (.type "int") (.ref C_Comments) = some false)
    (ys_Comments_tuple : PySem.W.subIn K (.type "tuple") (.ref C_Comments) = some false)
    (ys_Comments_list : PySem.W.subIn K (.type "list") (.ref C_Comments) = some false)
    (z_range : PySem.W.nsIn K mainGlobals "range" = some none)
    (z_reversed : PySem.W.nsIn K mainGlobals "reversed" = some none)
    (z_list : PySem.W.nsIn K mainGlobals "list" = some none)
    (z_isinstance : PySem.W.nsIn K mainGlobals "isinstance" = some none)
    (z_len : PySem.W.nsIn K mainGlobals "len" = some none)
    (z_int : PySem.W.nsIn K mainGlobals "int" = some none)
    (z_bool : PySem.W.nsIn K mainGlobals "bool" = some none)
    (z_all : PySem.W.nsIn K mainGlobals "all" = some none)
    (z_tuple : PySem.W.nsIn K mainGlobals "tuple" = some none)
    (q_EQUALS : PySem.W.nsIn K mainGlobals "_EQUALS" = some (some u_EQUALS)) (r_EQUALS : RelV (.int (61)) u_EQUALS)
    : ∃ fd : FuncData, (∀ (s : Shared) (v : Value), BindsTo s fd ⟨[v], []⟩ [("script", v)]) ∧ ∀ base : Heap, K.In base → base.Ns mainGlobals mg → FnOk l.prog w K mg base CX0 6 fa fd ["script"] (sp_law K) := by
  have e := hfa.symm.trans (PySem.W.mg_of X G a29)
  cases e
  have F1 := fun_mk (st := s_write_utf8) l1 c1 k1
  have b1 := F1.binds (ps := ["text"]) fun _ _ _ _ _ _ us hl => (by obtain ⟨_, rfl⟩ := ml1 hl; exact rfl)
  have F2 := fun_mk (st := s_read_utf8) l2 c2 k2
  have b2 := F2.binds (ps := ["data", "start", "stop"]) fun _ _ _ _ _ _ us hl => (by obtain ⟨_, _, _, rfl⟩ := ml3 hl; exact rfl)
  have F3 := fun_mk (st := s_point_count) l3 c3 k3
  have b3 := F3.binds (ps := ["point"]) fun _ _ _ _ _ _ us hl => (by obtain ⟨_, rfl⟩ := ml1 hl; exact rfl)
  have F4 := fun_mk (st := s_least_first) l4 c4 k4
  have b4 := F4.binds (ps := ["count"]) fun _ _ _ _ _ _ us hl => (by obtain ⟨_, rfl⟩ := ml1 hl; exact rfl)
  have F5 := fun_mk (st := s_point_bytes) l5 c5 k5
  have b5 := F5.binds (ps := ["point"]) fun _ _ _ _ _ _ us hl => (by obtain ⟨_, rfl⟩ := ml1 hl; exact rfl)
  have F6 := fun_mk (st := s_count_told) l6 c6 k6
  have b6 := F6.binds (ps := ["first"]) fun _ _ _ _ _ _ us hl => (by obtain ⟨_, rfl⟩ := ml1 hl; exact rfl)
  have F7 := fun_mk (st := s_read_point) l7 c7 k7
  have b7 := F7.binds (ps := ["data", "place", "count"]) fun _ _ _ _ _ _ us hl => (by obtain ⟨_, _, _, rfl⟩ := ml3 hl; exact rfl)
  have F8 := fun_mk (st := s_little_bytes) l8 c8 k8
  have b8 := F8.binds (ps := ["number", "count"]) fun _ _ _ _ _ _ us hl => (by obtain ⟨_, _, rfl⟩ := ml2 hl; exact rfl)
  have F9 := fun_mk (st := s_little_number) l9 c9 k9
  have b9 := F9.binds (ps := ["data", "place", "count"]) fun _ _ _ _ _ _ us hl => (by obtain ⟨_, _, _, rfl⟩ := ml3 hl; exact rfl)
  have F10 := fun_mk (st := s_check_inside) l10 c10 k10
  have b10 := F10.binds (ps := ["place", "count", "stop"]) fun _ _ _ _ _ _ us hl => (by obtain ⟨_, _, _, rfl⟩ := ml3 hl; exact rfl)
  have F11 := fun_mk (st := s_Comments_init) l11 c11 k11
  have b11 := F11.binds (ps := ["self", "vendor", "entries"]) fun _ _ _ _ _ _ us hl => (by obtain ⟨_, _, _, rfl⟩ := ml3 hl; exact rfl)
  have F12 := fun_mk (st := s_Comments_eq) l12 c12 k12
  have b12 := F12.binds (ps := ["self", "other"]) fun _ _ _ _ _ _ us hl => (by obtain ⟨_, _, rfl⟩ := ml2 hl; exact rfl)
  have F13 := fun_mk (st := s_read_comments) l13 c13 k13
  have b13 := F13.binds (ps := ["data", "start", "stop"]) fun _ _ _ _ _ _ us hl => (by obtain ⟨_, _, _, rfl⟩ := ml3 hl; exact rfl)
  have F14 := fun_mk (st := s_write_comments) l14 c14 k14
  have b14 := F14.binds (ps := ["comments"]) fun _ _ _ _ _ _ us hl => (by obtain ⟨_, rfl⟩ := ml1 hl; exact rfl)
  have F15 := fun_mk (st := s_read_length) l15 c15 k15
  have b15 := F15.binds (ps := ["data", "place", "stop"]) fun _ _ _ _ _ _ us hl => (by obtain ⟨_, _, _, rfl⟩ := ml3 hl; exact rfl)
  have F16 := fun_mk (st := s_read_entry) l16 c16 k16
  have b16 := F16.binds (ps := ["data", "place", "stop"]) fun _ _ _ _ _ _ us hl => (by obtain ⟨_, _, _, rfl⟩ := ml3 hl; exact rfl)
  have F17 := fun_mk (st := s_law_is_integer) l17 c17 k17
  have b17 := F17.binds (ps := ["actual"]) fun _ _ _ _ _ _ us hl => (by obtain ⟨_, rfl⟩ := ml1 hl; exact rfl)
  have F18 := fun_mk (st := s_law_refill) l18 c18 k18
  have b18 := F18.binds (ps := ["script", "k"]) fun _ _ _ _ _ _ us hl => (by obtain ⟨_, _, rfl⟩ := ml2 hl; exact rfl)
  have F19 := fun_mk (st := s_law_draw) l19 c19 k19
  have b19 := F19.binds (ps := ["state", "script", "size"]) fun _ _ _ _ _ _ us hl => (by obtain ⟨_, _, _, rfl⟩ := ml3 hl; exact rfl)
  have F20 := fun_mk (st := s_law_junk) l20 c20 k20
  have b20 := F20.binds (ps := ["state", "script", "count"]) fun _ _ _ _ _ _ us hl => (by obtain ⟨_, _, _, rfl⟩ := ml3 hl; exact rfl)
  have F21 := fun_mk (st := s_law_is_bytes) l21 c21 k21
  have b21 := F21.binds (ps := ["actual"]) fun _ _ _ _ _ _ us hl => (by obtain ⟨_, rfl⟩ := ml1 hl; exact rfl)
  have F22 := fun_mk (st := s_law_text) l22 c22 k22
  have b22 := F22.binds (ps := ["state", "script", "most"]) fun _ _ _ _ _ _ us hl => (by obtain ⟨_, _, _, rfl⟩ := ml3 hl; exact rfl)
  have F23 := fun_mk (st := s_law_name) l23 c23 k23
  have b23 := F23.binds (ps := ["state", "script"]) fun _ _ _ _ _ _ us hl => (by obtain ⟨_, _, rfl⟩ := ml2 hl; exact rfl)
  have F24 := fun_mk (st := s_law_entries) l24 c24 k24
  have b24 := F24.binds (ps := ["state", "script", "most"]) fun _ _ _ _ _ _ us hl => (by obtain ⟨_, _, _, rfl⟩ := ml3 hl; exact rfl)
  have F25 := fun_mk (st := s_law_utf8) l25 c25 k25
  have b25 := F25.binds (ps := ["text"]) fun _ _ _ _ _ _ us hl => (by obtain ⟨_, rfl⟩ := ml1 hl; exact rfl)
  have F26 := fun_mk (st := s_law_little) l26 c26 k26
  have b26 := F26.binds (ps := ["number"]) fun _ _ _ _ _ _ us hl => (by obtain ⟨_, rfl⟩ := ml1 hl; exact rfl)
  have F27 := fun_mk (st := s_law_comment_bytes) l27 c27 k27
  have b27 := F27.binds (ps := ["vendor", "entries"]) fun _ _ _ _ _ _ us hl => (by obtain ⟨_, _, rfl⟩ := ml2 hl; exact rfl)
  have F28 := fun_mk (st := s_law_same) l28 c28 k28
  have b28 := F28.binds (ps := ["actual", "vendor", "entries"]) fun _ _ _ _ _ _ us hl => (by obtain ⟨_, _, _, rfl⟩ := ml3 hl; exact rfl)
  have F29 := fun_mk (st := s_law) l29 c29 k29
  have b29 := F29.binds (ps := ["script"]) fun _ _ _ _ _ _ us hl => (by obtain ⟨_, rfl⟩ := ml1 hl; exact rfl)
  let T : TX K mg := ⟨f1, _, F1, b1, (PySem.W.mg_of X G a1), f2, _, F2, b2, (PySem.W.mg_of X G a2), f3, _, F3, b3, (PySem.W.mg_of X G a3), f4, _, F4, b4, (PySem.W.mg_of X G a4), f5, _, F5, b5, (PySem.W.mg_of X G a5), f6, _, F6, b6, (PySem.W.mg_of X G a6), f7, _, F7, b7, (PySem.W.mg_of X G a7), f8, _, F8, b8, (PySem.W.mg_of X G a8), f9, _, F9, b9, (PySem.W.mg_of X G a9), f10, _, F10, b10, (PySem.W.mg_of X G a10), f11, _, F11, b11, f12, _, F12, b12, f13, _, F13, b13, (PySem.W.mg_of X G a13), f14, _, F14, b14, (PySem.W.mg_of X G a14), f15, _, F15, b15, (PySem.W.mg_of X G a15), f16, _, F16, b16, (PySem.W.mg_of X G a16), f17, _, F17, b17, (PySem.W.mg_of X G a17), f18, _, F18, b18, (PySem.W.mg_of X G a18), f19, _, F19, b19, (PySem.W.mg_of X G a19), f20, _, F20, b20, (PySem.W.mg_of X G a20), f21, _, F21, b21, (PySem.W.mg_of X G a21), f22, _, F22, b22, (PySem.W.mg_of X G a22), f23, _, F23, b23, (PySem.W.mg_of X G a23), f24, _, F24, b24, (PySem.W.mg_of X G a24), f25, _, F25, b25, (PySem.W.mg_of X G a25), f26, _, F26, b26, (PySem.W.mg_of X G a26), f27, _, F27, b27, (PySem.W.mg_of X G a27), f28, _, F28, b28, (PySem.W.mg_of X G a28), fa, _, F29, b29, (PySem.W.mg_of X G a29), C_Comments, ⟨pg_Comments, hd_Comments, po_Comments, sa_Comments⟩, (PySem.W.mg_of X G aC_Comments), ⟨mk_Comments, a11, i11, kc_Comments⟩, ⟨a12, i12, k12⟩, n_Comments_vendor, n_Comments_entries, ⟨ty_Commentsha, ty_Commentshn, ty_Commentsht, ty_Commentshm⟩, kit_self.1, kit_self.2, (kit_ty hd_Comments yt_Comments ys_Comments_int).1, (kit_ty hd_Comments yt_Comments ys_Comments_int).2, (kit_ty hd_Comments yt_Comments ys_Comments_tuple).1, (kit_ty hd_Comments yt_Comments ys_Comments_tuple).2, (kit_ty hd_Comments yt_Comments ys_Comments_list).1, (kit_ty hd_Comments yt_Comments ys_Comments_list).2, (PySem.W.mg_none_of X G z_range), (PySem.W.mg_none_of X G z_reversed), (PySem.W.mg_none_of X G z_list), (PySem.W.mg_none_of X G z_isinstance), (PySem.W.mg_none_of X G z_len), (PySem.W.mg_none_of X G z_int), (PySem.W.mg_none_of X G z_bool), (PySem.W.mg_none_of X G z_all), (PySem.W.mg_none_of X G z_tuple), u_EQUALS, (PySem.W.mg_of X G q_EQUALS), r_EQUALS⟩
  exact ⟨_, fun s v => .of_eq rfl, fun base _ _ => ok_law T⟩
end K50
open PySem PySem.W PyProof.Rows
set_option maxRecDepth 100000 in
set_option maxHeartbeats 0 in
theorem PySem.Challenge.cw_monochord_k50_comments_holds : PySem.Challenge.rw_monochord_k50_comments.Holds := by
  w_on; o_law; k_head; (case hw => w_witness2)
  k_fill
  refine L2.walk_of (l := PySem.Challenge.rw_monochord_k50_comments) (n := 63) (k := 6) (x := "script") (CX := fun _ => L2.CX0) (sp := fun w => K50.sp_law _) rfl (by decide) rfl ⟨rfl, by decide, by decide⟩ (fun w h Y => PySem.W.kIn_of Y) ?F (fun _ _ a ns hl _ hS => ⟨a, ns, rfl, hS, hl, fun _ => rfl⟩) (fun _ _ _ _ _ h => h)
  case F =>
    intro w mg fa h KX G hmg
    refine' K50.all_mk KX G hmg ?a1 ?l1 ?c1 ?k1 ?a2 ?l2 ?c2 ?k2 ?a3 ?l3 ?c3 ?k3 ?a4 ?l4 ?c4 ?k4 ?a5 ?l5 ?c5 ?k5 ?a6 ?l6 ?c6 ?k6 ?a7 ?l7 ?c7 ?k7 ?a8 ?l8 ?c8 ?k8 ?a9 ?l9 ?c9 ?k9 ?a10 ?l10 ?c10 ?k10 ?a11 ?i11 ?l11 ?c11 ?k11 ?a12 ?i12 ?l12 ?c12 ?k12 ?a13 ?l13 ?c13 ?k13 ?a14 ?l14 ?c14 ?k14 ?a15 ?l15 ?c15 ?k15 ?a16 ?l16 ?c16 ?k16 ?a17 ?l17 ?c17 ?k17 ?a18 ?l18 ?c18 ?k18 ?a19 ?l19 ?c19 ?k19 ?a20 ?l20 ?c20 ?k20 ?a21 ?l21 ?c21 ?k21 ?a22 ?l22 ?c22 ?k22 ?a23 ?l23 ?c23 ?k23 ?a24 ?l24 ?c24 ?k24 ?a25 ?l25 ?c25 ?k25 ?a26 ?l26 ?c26 ?k26 ?a27 ?l27 ?c27 ?k27 ?a28 ?l28 ?c28 ?k28 ?a29 ?l29 ?c29 ?k29 ?aC_Comments ?pg_Comments ?hd_Comments ?po_Comments ?sa_Comments ?mk_Comments ?kc_Comments ?n_Comments_vendor ?n_Comments_entries ?ty_Commentsha ?ty_Commentshn ?ty_Commentsht ?ty_Commentshm ?yt_Comments ?yz_Comments ?ys_Comments_int ?ys_Comments_tuple ?ys_Comments_list ?z_range ?z_reversed ?z_list ?z_isinstance ?z_len ?z_int ?z_bool ?z_all ?z_tuple ?q_EQUALS ?r_EQUALS
    (case aC_Comments => k_is)
    (case a1 => k_is)
    (case l1 => k_is)
    (case c1 => k_is)
    (case k1 => k_is)
    (case a2 => k_is)
    (case l2 => k_is)
    (case c2 => k_is)
    (case k2 => k_is)
    (case a3 => k_is)
    (case l3 => k_is)
    (case c3 => k_is)
    (case k3 => k_is)
    (case a4 => k_is)
    (case l4 => k_is)
    (case c4 => k_is)
    (case k4 => k_is)
    (case a5 => k_is)
    (case l5 => k_is)
    (case c5 => k_is)
    (case k5 => k_is)
    (case a6 => k_is)
    (case l6 => k_is)
    (case c6 => k_is)
    (case k6 => k_is)
    (case a7 => k_is)
    (case l7 => k_is)
    (case c7 => k_is)
    (case k7 => k_is)
    (case a8 => k_is)
    (case l8 => k_is)
    (case c8 => k_is)
    (case k8 => k_is)
    (case a9 => k_is)
    (case l9 => k_is)
    (case c9 => k_is)
    (case k9 => k_is)
    (case a10 => k_is)
    (case l10 => k_is)
    (case c10 => k_is)
    (case k10 => k_is)
    (case a11 => k_is)
    (case i11 => k_is)
    (case l11 => k_is)
    (case c11 => k_is)
    (case k11 => k_is)
    (case a12 => k_is)
    (case i12 => k_is)
    (case l12 => k_is)
    (case c12 => k_is)
    (case k12 => k_is)
    (case a13 => k_is)
    (case l13 => k_is)
    (case c13 => k_is)
    (case k13 => k_is)
    (case a14 => k_is)
    (case l14 => k_is)
    (case c14 => k_is)
    (case k14 => k_is)
    (case a15 => k_is)
    (case l15 => k_is)
    (case c15 => k_is)
    (case k15 => k_is)
    (case a16 => k_is)
    (case l16 => k_is)
    (case c16 => k_is)
    (case k16 => k_is)
    (case a17 => k_is)
    (case l17 => k_is)
    (case c17 => k_is)
    (case k17 => k_is)
    (case a18 => k_is)
    (case l18 => k_is)
    (case c18 => k_is)
    (case k18 => k_is)
    (case a19 => k_is)
    (case l19 => k_is)
    (case c19 => k_is)
    (case k19 => k_is)
    (case a20 => k_is)
    (case l20 => k_is)
    (case c20 => k_is)
    (case k20 => k_is)
    (case a21 => k_is)
    (case l21 => k_is)
    (case c21 => k_is)
    (case k21 => k_is)
    (case a22 => k_is)
    (case l22 => k_is)
    (case c22 => k_is)
    (case k22 => k_is)
    (case a23 => k_is)
    (case l23 => k_is)
    (case c23 => k_is)
    (case k23 => k_is)
    (case a24 => k_is)
    (case l24 => k_is)
    (case c24 => k_is)
    (case k24 => k_is)
    (case a25 => k_is)
    (case l25 => k_is)
    (case c25 => k_is)
    (case k25 => k_is)
    (case a26 => k_is)
    (case l26 => k_is)
    (case c26 => k_is)
    (case k26 => k_is)
    (case a27 => k_is)
    (case l27 => k_is)
    (case c27 => k_is)
    (case k27 => k_is)
    (case a28 => k_is)
    (case l28 => k_is)
    (case c28 => k_is)
    (case k28 => k_is)
    (case a29 => k_is)
    (case l29 => k_is)
    (case c29 => k_is)
    (case k29 => k_is)
    (case pg_Comments => k_is)
    (case hd_Comments => k_is)
    (case po_Comments => k_is)
    (case sa_Comments => k_is)
    (case mk_Comments => k_is)
    (case kc_Comments => k_is)
    (case n_Comments_vendor => k_is)
    (case n_Comments_entries => k_is)
    (case ty_Commentsha => k_is)
    (case ty_Commentshn => k_is)
    (case ty_Commentsht => k_is)
    (case ty_Commentshm => k_is)
    (case yt_Comments => k_is)
    (case yz_Comments => k_is)
    (case ys_Comments_int => k_is)
    (case ys_Comments_tuple => k_is)
    (case ys_Comments_list => k_is)
    (case z_range => k_is)
    (case z_reversed => k_is)
    (case z_list => k_is)
    (case z_isinstance => k_is)
    (case z_len => k_is)
    (case z_int => k_is)
    (case z_bool => k_is)
    (case z_all => k_is)
    (case z_tuple => k_is)
    (case q_EQUALS => k_is)
    (case r_EQUALS => first | rfl | exact ⟨_, rfl⟩)
