import PyProof.Rows.All
import Wide.All
import OpenK.AllK
import Wide.FinOn
import HandS.ForMost
import HandS.Steps
import HandS.Evl
import HandS.IsInst
import HandS.Defaults
import HandS.MakeKwOnly
import HandS.Wide
import HandS.WideBits
import HandS.Zip
import HandS.Star
import HandS.Walk
import HandS.Text
import HandS.TryOnly
import HandS.OwnEq
import PyProof.P3Eq
import PySem.Challenge.RW_monochord_k14_wave_files
set_option Elab.async false
set_option linter.all false
set_option maxRecDepth 100000
set_option maxHeartbeats 4000000
namespace K14
open PySem PySem.Spec PyProof.Rows L2 Evl
def topS (i : Nat) : Stmt := PySem.Challenge.pw_monochord_k14_wave_files.main.body.getD i (.Pass ⟨0, 0, 0, 0⟩)
abbrev s_Audio_init : Stmt := inClass (topS 2) 0
theorem sc_Audio_init : FnScope ["self", "rate", "depth", "channels", "channel"] ["self", "rate", "depth", "channels"] (defScope s_Audio_init) := ⟨rfl, rfl, rfl, by decide +kernel, rfl, by decide +kernel, by decide +kernel⟩
abbrev s_Audio_eq : Stmt := inClass (topS 2) 3
theorem sc_Audio_eq : FnScope ["self", "other"] ["self", "other"] (defScope s_Audio_eq) := ⟨rfl, rfl, rfl, by decide +kernel, rfl, by decide +kernel, by decide +kernel⟩
abbrev s_little_bytes : Stmt := topS 13
theorem sc_little_bytes : FnScope ["number", "count", "shift"] ["number", "count"] (defScope s_little_bytes) := ⟨rfl, rfl, rfl, by decide +kernel, rfl, by decide +kernel, by decide +kernel⟩
abbrev s_little_number : Stmt := topS 14
theorem sc_little_number : FnScope ["data", "place", "count", "number", "byte"] ["data", "place", "count"] (defScope s_little_number) := ⟨rfl, rfl, rfl, by decide +kernel, rfl, by decide +kernel, by decide +kernel⟩
abbrev s_write_wave : Stmt := topS 35
theorem sc_write_wave : FnScope ["audio", "content"] ["audio"] (defScope s_write_wave) := ⟨rfl, rfl, rfl, by decide +kernel, rfl, by decide +kernel, by decide +kernel⟩
abbrev s_read_wave : Stmt := topS 36
theorem sc_read_wave : FnScope ["data", "place", "expected", "form", "name", "start", "stop"] ["data"] (defScope s_read_wave) := ⟨rfl, rfl, rfl, by decide +kernel, rfl, by decide +kernel, by decide +kernel⟩
abbrev s_sample_bytes : Stmt := topS 37
theorem sc_sample_bytes : FnScope ["depth"] ["depth"] (defScope s_sample_bytes) := ⟨rfl, rfl, rfl, by decide +kernel, rfl, by decide +kernel, by decide +kernel⟩
abbrev s_chunk : Stmt := topS 38
theorem sc_chunk : FnScope ["name", "content"] ["name", "content"] (defScope s_chunk) := ⟨rfl, rfl, rfl, by decide +kernel, rfl, by decide +kernel, by decide +kernel⟩
abbrev s_form_content : Stmt := topS 39
theorem sc_form_content : FnScope ["audio", "count", "size", "is_plain", "data"] ["audio"] (defScope s_form_content) := ⟨rfl, rfl, rfl, by decide +kernel, rfl, by decide +kernel, by decide +kernel⟩
abbrev s_data_content : Stmt := topS 40
theorem sc_data_content : FnScope ["audio", "size", "shift", "middle", "data", "row", "sample"] ["audio"] (defScope s_data_content) := ⟨rfl, rfl, rfl, by decide +kernel, rfl, by decide +kernel, by decide +kernel⟩
abbrev s_read_chunk : Stmt := topS 41
theorem sc_read_chunk : FnScope ["data", "place", "start", "stop"] ["data", "place"] (defScope s_read_chunk) := ⟨rfl, rfl, rfl, by decide +kernel, rfl, by decide +kernel, by decide +kernel⟩
abbrev s_read_form : Stmt := topS 42
theorem sc_read_form : FnScope ["data", "start", "stop", "first", "count", "rate", "bits", "depth"] ["data", "start", "stop"] (defScope s_read_form) := ⟨rfl, rfl, rfl, by decide +kernel, rfl, by decide +kernel, by decide +kernel⟩
abbrev s_read_depth : Stmt := topS 43
theorem sc_read_depth : FnScope ["data", "start", "bits", "depth"] ["data", "start", "bits"] (defScope s_read_depth) := ⟨rfl, rfl, rfl, by decide +kernel, rfl, by decide +kernel, by decide +kernel⟩
abbrev s_read_samples : Stmt := topS 44
theorem sc_read_samples : FnScope ["data", "start", "stop", "form", "rate", "count", "depth", "size", "samples", "place", "at"] ["data", "start", "stop", "form"] (defScope s_read_samples) := ⟨rfl, rfl, rfl, by decide +kernel, rfl, by decide +kernel, by decide +kernel⟩
abbrev s_read_sample : Stmt := topS 45
theorem sc_read_sample : FnScope ["data", "place", "size", "depth", "number", "shift"] ["data", "place", "size", "depth"] (defScope s_read_sample) := ⟨rfl, rfl, rfl, by decide +kernel, rfl, by decide +kernel, by decide +kernel⟩
abbrev s_law_draw : Stmt := topS 47
theorem sc_law_draw : FnScope ["cell", "many", "bound", "numbers", "k", "seed", "mixed"] ["cell", "many", "bound"] (defScope s_law_draw) := ⟨rfl, rfl, rfl, by decide +kernel, rfl, by decide +kernel, by decide +kernel⟩
abbrev s_law_is_integer : Stmt := topS 48
theorem sc_law_is_integer : FnScope ["actual"] ["actual"] (defScope s_law_is_integer) := ⟨rfl, rfl, rfl, by decide +kernel, rfl, by decide +kernel, by decide +kernel⟩
abbrev s_law_same : Stmt := topS 49
theorem sc_law_same : FnScope ["actual", "expected", "k"] ["actual", "expected"] (defScope s_law_same) := ⟨rfl, rfl, rfl, by decide +kernel, rfl, by decide +kernel, by decide +kernel⟩
abbrev s_law_cell : Stmt := topS 50
theorem sc_law_cell : FnScope ["script", "k"] ["script", "k"] (defScope s_law_cell) := ⟨rfl, rfl, rfl, by decide +kernel, rfl, by decide +kernel, by decide +kernel⟩
abbrev s_law_little : Stmt := topS 51
theorem sc_law_little : FnScope ["value", "many", "k"] ["value", "many"] (defScope s_law_little) := ⟨rfl, rfl, rfl, by decide +kernel, rfl, by decide +kernel, by decide +kernel⟩
abbrev s_law_channel : Stmt := topS 52
theorem sc_law_channel : FnScope ["cell", "many", "depth", "numbers", "row", "number", "value"] ["cell", "many", "depth"] (defScope s_law_channel) := ⟨rfl, rfl, rfl, by decide +kernel, rfl, by decide +kernel, by decide +kernel⟩
abbrev s_law_chunk : Stmt := topS 53
theorem sc_law_chunk : FnScope ["name", "content"] ["name", "content"] (defScope s_law_chunk) := ⟨rfl, rfl, rfl, by decide +kernel, rfl, by decide +kernel, by decide +kernel⟩
abbrev s_law_format : Stmt := topS 54
theorem sc_law_format : FnScope ["rate", "depth", "count", "size", "plain", "tag", "content", "end"] ["rate", "depth", "count"] (defScope s_law_format) := ⟨rfl, rfl, rfl, by decide +kernel, rfl, by decide +kernel, by decide +kernel⟩
abbrev s_law_samples : Stmt := topS 55
theorem sc_law_samples : FnScope ["channels", "size", "depth", "width", "content", "at", "row", "number"] ["channels", "size", "depth"] (defScope s_law_samples) := ⟨rfl, rfl, rfl, by decide +kernel, rfl, by decide +kernel, by decide +kernel⟩
abbrev s_law_file : Stmt := topS 56
theorem sc_law_file : FnScope ["chunks", "body", "chunk"] ["chunks"] (defScope s_law_file) := ⟨rfl, rfl, rfl, by decide +kernel, rfl, by decide +kernel, by decide +kernel⟩
abbrev s_law_equal : Stmt := topS 57
theorem sc_law_equal : FnScope ["audio", "rate", "depth", "channels", "k"] ["audio", "rate", "depth", "channels"] (defScope s_law_equal) := ⟨rfl, rfl, rfl, by decide +kernel, rfl, by decide +kernel, by decide +kernel⟩
abbrev s_law : Stmt := topS 58
theorem sc_law : FnScope ["script", "sizes", "count", "size", "depth", "rate", "channels", "audio", "first", "second", "data", "kept", "extra", "chunks", "handed", "other", "k"] ["script"] (defScope s_law) := ⟨rfl, rfl, rfl, by decide +kernel, rfl, by decide +kernel, by decide +kernel⟩
theorem hu64 {A : Around} {k : Nat} (hr : Room k A) : A.units + 64 < cLine := hr.units
/-! ### short words for readings -/
theorem ret_eq {v w : V} {H H' : Hp} {Q : VK} (k : RetV v H Q) (ex : Ex H H') (e : w = v) : Q w H' := e ▸ k H' ex
/-- isinstance(x, T), T a built-in class -/
theorem ev_isi {K : PySem.W.Frag} {σ : L2.St} {H : Hp} {ta : TE} {x : V} {t : String} {T : String} {b : Bool} (ha : Ev ta σ H x) (ht : ∀ H1, Ex H H1 → TyX K H1 x (.type t)) (hk : kitB t T = some b) :
    Ev (tCB (rIsi K) (tCons ta (tCons (tC (.ty T)) tNil))) σ H (.bl b) :=
  ev_cb (ea_cons ha (ea_cons ev_c ea_nil)) fun H1 e Q q => ⟨x, .ty T, _, _, b, rfl, .ty T, ht H1 e, kit_ty hk, q H1 (Ex.refl H1)⟩
theorem isi_int {K : PySem.W.Frag} {H : Hp} {i : Int} : ∀ H1, Ex H H1 → TyX K H1 (V.int i) (.type "int") := fun _ _ => .base (.int _)
theorem isi_bl {K : PySem.W.Frag} {H : Hp} {b : Bool} : ∀ H1, Ex H H1 → TyX K H1 (V.bl b) (.type "bool") := fun _ _ => .base (.bl _)
theorem isi_non {K : PySem.W.Frag} {H : Hp} : ∀ H1, Ex H H1 → TyX K H1 V.non (.type "NoneType") := fun _ _ => .base .non
theorem isi_lst {K : PySem.W.Frag} {H : Hp} {a : Addr} {xs : List V} (h : H a = some (.lst xs)) : ∀ H1, Ex H H1 → TyX K H1 (V.ref a) (.type "list") := fun _ e => .base (.lst (e _ _ h))
theorem isi_tup {K : PySem.W.Frag} {H : Hp} {a : Addr} {xs : List V} (h : H a = some (.tup xs)) : ∀ H1, Ex H H1 → TyX K H1 (V.ref a) (.type "tuple") := fun _ e => .base (.tup (e _ _ h))
theorem kit_ii : kitB "int" "int" = some true := by decide +kernel
theorem kit_ib : kitB "int" "bool" = some false := by decide +kernel
theorem kit_bb : kitB "bool" "bool" = some true := by decide +kernel
theorem kit_bi : kitB "bool" "int" = some true := by decide +kernel
theorem kit_ll : kitB "list" "list" = some true := by decide +kernel
theorem kit_tt : kitB "tuple" "tuple" = some true := by decide +kernel
theorem ev_isiI {K : PySem.W.Frag} {σ : L2.St} {H : Hp} {ta : TE} {i : Int} (ha : Ev ta σ H (.int i)) : Ev (tCB (rIsi K) (tCons ta (tCons (tC (.ty "int")) tNil))) σ H (.bl true) := ev_isi ha isi_int kit_ii
theorem ev_isiB {K : PySem.W.Frag} {σ : L2.St} {H : Hp} {ta : TE} {i : Int} (ha : Ev ta σ H (.int i)) : Ev (tCB (rIsi K) (tCons ta (tCons (tC (.ty "bool")) tNil))) σ H (.bl false) := ev_isi ha isi_int kit_ib
theorem ev_isiL {K : PySem.W.Frag} {σ : L2.St} {H : Hp} {ta : TE} {a : Addr} {xs : List V} (ha : Ev ta σ H (.ref a)) (h : H a = some (.lst xs)) : Ev (tCB (rIsi K) (tCons ta (tCons (tC (.ty "list")) tNil))) σ H (.bl true) := ev_isi ha (isi_lst h) kit_ll
theorem ev_isiBB {K : PySem.W.Frag} {σ : L2.St} {H : Hp} {ta : TE} {b : Bool} (ha : Ev ta σ H (.bl b)) : Ev (tCB (rIsi K) (tCons ta (tCons (tC (.ty "bool")) tNil))) σ H (.bl true) := ev_isi ha isi_bl kit_bb
theorem ev_chain {σ : L2.St} {H : Hp} {ta tb tc : TE} {g g' : Int → Int → Bool} {a b c : Int} (ha : Ev ta σ H (.int a)) (hb : Ev tb σ H (.int b)) (hc : Ev tc σ H (.int c)) :
    Ev (tChain (rI0 fun i j => .bl (g i j)) (rI0 fun i j => .bl (g' i j)) ta tb tc) σ H (.bl (g a b && g' b c)) := fun H1 e Q q =>
  ha H1 e _ fun H2 e2 => hb H2 (e.trans e2) _ fun H3 e3 => ⟨a, b, rfl, rfl, g a b, rfl, by
    cases hg : g a b with
    | true =>
      rw [if_pos rfl]
      rw [hg, Bool.true_and] at q
      exact hc H3 ((e.trans e2).trans e3) _ fun H4 e4 => ⟨b, c, rfl, rfl, q H4 ((e2.trans e3).trans e4)⟩
    | false =>
      rw [if_neg (by decide)]
      rw [hg, Bool.false_and] at q
      exact q H3 (e2.trans e3)⟩
theorem ev_isN {σ : L2.St} {H : Hp} {ta : TE} {x : V} (ha : Ev ta σ H x) : Ev (tOp rIsN ta (tC .non)) σ H (.bl (decide (x = .non))) := fun H1 e Q q => ha H1 e _ fun H2 e2 => ⟨rfl, q H2 e2⟩
theorem ev_notN {σ : L2.St} {H : Hp} {ta : TE} {x : V} (ha : Ev ta σ H x) : Ev (tOp rNotN ta (tC .non)) σ H (.bl (!decide (x = .non))) := fun H1 e Q q => ha H1 e _ fun H2 e2 => ⟨rfl, q H2 e2⟩
theorem ev_min2 {σ : L2.St} {H : Hp} {ta tb : TE} {i j : Int} (ha : Ev ta σ H (.int i)) (hb : Ev tb σ H (.int j)) :
    Ev (tCB (fun xs H Q => ∃ i j, xs = [.int i, .int j] ∧ Q (.int (if j < i then j else i)) H) (tCons ta (tCons tb tNil))) σ H (.int (if j < i then j else i)) :=
  ev_cb (ea_cons ha (ea_cons hb ea_nil)) fun H1 _ _ q => ⟨i, j, rfl, q H1 (Ex.refl H1)⟩
theorem ev_negI {σ : L2.St} {H : Hp} {ta : TE} {i : Int} (ha : Ev ta σ H (.int i)) : Ev (tUn (rU fun i => .int (-i)) ta) σ H (.int (-i)) := ev_un ha ru_neg
theorem ev_I0 {σ : L2.St} {H : Hp} {ta tb : TE} {g : Int → Int → V} {i j : Int} (ha : Ev ta σ H (.int i)) (hb : Ev tb σ H (.int j)) : Ev (tOp (rI0 g) ta tb) σ H (g i j) := ev_op ha hb rv_I0
theorem ev_I {σ : L2.St} {H : Hp} {ta tb : TE} {C : Int → Int → Prop} {g : Int → Int → V} {i j : Int} (ha : Ev ta σ H (.int i)) (hb : Ev tb σ H (.int j)) (hc : C i j) : Ev (tOp (rI C g) ta tb) σ H (g i j) := ev_op ha hb (rv_I hc)
theorem ev_eq {σ : L2.St} {H : Hp} {ta tb : TE} {x y : V} (ha : Ev ta σ H x) (hb : Ev tb σ H y) (hs : scal x y = true) : Ev (tOp rEq ta tb) σ H (.bl (decide (x = y))) := ev_op ha hb (rv_eq hs)
theorem ev_ne {σ : L2.St} {H : Hp} {ta tb : TE} {x y : V} (ha : Ev ta σ H x) (hb : Ev tb σ H y) (hs : scal x y = true) : Ev (tOp rNe ta tb) σ H (.bl (!decide (x = y))) := ev_op ha hb (rv_ne hs)
theorem et_B' {σ : L2.St} {H : Hp} {te : TE} {x : V} {b : Bool} (h : Ev te σ H x) (e : x = .bl b) : EvT (tB te) σ H b := et_B (e ▸ h)
theorem dec_lt {a b : Nat} : decide ((a : Int) < (b : Int)) = decide (a < b) := by
  by_cases h : a < b
  · rw [decide_eq_true h, decide_eq_true (by omega)]
  · rw [decide_eq_false h, decide_eq_false (by omega)]
theorem int_at {ns : List Int} {i : Nat} {x : V} (hx : (ns.map V.int)[i]? = some x) : ∃ n, ns[i]? = some n ∧ i < ns.length ∧ x = V.int n := by
  rw [List.getElem?_map] at hx
  cases en : ns[i]? with
  | none => rw [en] at hx; cases hx
  | some n => rw [en] at hx; exact ⟨n, rfl, (List.getElem?_eq_some_iff.mp en).1, (Option.some.inj hx).symm⟩
theorem at_int {ns : List Int} {i : Nat} {n : Int} (h : ns[i]? = some n) : (ns.map V.int)[i]? = some (V.int n) := by rw [List.getElem?_map, h]; rfl
local macro_rules | `(tactic| walk_at "side") => `(tactic| first
  | omega | (show CMul _ _; unfold CMul; omega) | (show CDiv _ _; unfold CDiv; omega) | (show CPow _ _; unfold CPow; omega) | (show (_ : Int) < _; omega) | (show (_ : Int) ≤ _; omega) | decide)
local macro_rules | `(tactic| walk_at "ev") => `(tactic| first
  | exact ev_var rfl
  | exact ev_c
  | (refine' ev_I0 ?h1 ?h2; (case h1 => walk_at "ev"); (case h2 => walk_at "ev"))
  | (refine' ev_negI ?h1; (case h1 => walk_at "ev"))
  | (refine' ev_I ?h1 ?h2 ?hc; (case h1 => walk_at "ev"); (case h2 => walk_at "ev"); (case hc => walk_at "side"))
  | (refine' ev_eq ?h1 ?h2 ?hc; (case h1 => walk_at "ev"); (case h2 => walk_at "ev"); (case hc => rfl))
  | (refine' ev_ne ?h1 ?h2 ?hc; (case h1 => walk_at "ev"); (case h2 => walk_at "ev"); (case hc => rfl))
  | (refine' ev_max2 ?h1 ?h2; (case h1 => walk_at "ev"); (case h2 => walk_at "ev"))
  | (refine' ev_min2 ?h1 ?h2; (case h1 => walk_at "ev"); (case h2 => walk_at "ev"))
  | (refine' ev_chain ?h1 ?h2 ?h3; (case h1 => walk_at "ev"); (case h2 => walk_at "ev"); (case h3 => walk_at "ev"))
  | (refine' ev_isN ?h1; (case h1 => walk_at "ev"))
  | (refine' ev_notN ?h1; (case h1 => walk_at "ev"))
  | (refine' ev_isiI ?h1; (case h1 => walk_at "ev"))
  | (refine' ev_isiB ?h1; (case h1 => walk_at "ev"))
  | (refine' ev_isiBB ?h1; (case h1 => walk_at "ev"))
  | (refine' ev_andV ?h1 (fun _ => ?h2); (case h1 => walk_at "ev"); (case h2 => walk_at "ev"))
  | (refine' ev_orV ?h1 (fun _ => ?h2); (case h1 => walk_at "ev"); (case h2 => walk_at "ev"))
  | (refine' ev_notV ?h1; (case h1 => walk_at "ev"))
  | walk_at "evmore")
local macro_rules | `(tactic| walk_at "et") => `(tactic| first
  | (refine' et_test ?h1; (case h1 => walk_at "ev"))
  | (refine' et_B ?h1; (case h1 => walk_at "ev"))
  | (refine' et_not ?h1; (case h1 => walk_at "et"))
  | (refine' et_and ?h1 (fun _ => ?h2); (case h1 => walk_at "et"); (case h2 => walk_at "et"))
  | (refine' et_or ?h1 (fun _ => ?h2); (case h1 => walk_at "et"); (case h2 => walk_at "et")))
local macro_rules | `(tactic| walk_at "ea") => `(tactic| first
  | exact ea_nil
  | (refine' ea_cons ?h1 ?h2; (case h1 => walk_at "ev"); (case h2 => walk_at "ea")))
local macro_rules | `(tactic| walk_at "when") => `(tactic| (refine' q_when ?h ?h1 ?h2; (case h => walk_at "et")))
local macro_rules | `(tactic| walk_at "whenS") => `(tactic| (refine' s_when ?h ?h1 ?h2; (case h => walk_at "et")))
local macro_rules | `(tactic| walk_at "if") => `(tactic| (refine' q_if ?h ?h1 ?h2; (case h => walk_at "et")))
local macro_rules | `(tactic| walk_at "ifS") => `(tactic| (refine' s_if ?h ?h1 ?h2; (case h => walk_at "et")))
local macro_rules | `(tactic| walk_at "ret") => `(tactic| (refine' s_ret ?h ?h1; (case h => walk_at "ev")))
local macro_rules | `(tactic| walk_at "asg") => `(tactic| (refine' q_asg ?h ?h1; (case h => walk_at "ev")))
local macro_rules | `(tactic| walk_at "asgS") => `(tactic| (refine' s_asg ?h ?h1; (case h => walk_at "ev")))

/-! ### lists, existing or new -/
def EvR (te : TE) (σ : L2.St) (H : Hp) (xs : List V) : Prop := ∀ H1, Ex H H1 → ∀ Q : VK, (∀ p H2, Ex H1 H2 → H2 p = some (.lst xs) → Q (.ref p) H2) → te σ H1 Q
def EvS (K : PySem.W.Frag) (te : TE) (σ : L2.St) (H : Hp) (xs : List V) : Prop := ∀ H1, Ex H H1 → ∀ Q : VK, (∀ p H2, Ex H1 H2 → SqL K H2 p xs → Q (.ref p) H2) → te σ H1 Q
section
variable {K : PySem.W.Frag} {σ : L2.St} {H H' : Hp} {ta tb te : TE} {xs ys : List V} {a : Addr}
theorem EvL.r (h : EvL te σ H xs) : EvR te σ H xs := fun H1 e Q q => h H1 e Q fun p H2 _ e2 h2 => q p H2 e2 h2
theorem Ev.r (h : Ev te σ H (.ref a)) (hx : H a = some (.lst xs)) : EvR te σ H xs := fun H1 e Q q => h H1 e Q fun H2 e2 => q a H2 e2 (e2 _ _ (e _ _ hx))
theorem EvR.s (h : EvR te σ H xs) : EvS K te σ H xs := fun H1 e Q q => h H1 e Q fun p H2 e2 h2 => q p H2 e2 (sq_of h2)
theorem Ev.s (h : Ev te σ H (.ref a)) (hx : SqL K H a xs) : EvS K te σ H xs := fun H1 e Q q => h H1 e Q fun H2 e2 => q a H2 e2 (ex_l e2 (ex_l e hx))
theorem EvR.mono (e : Ex H H') (h : EvR te σ H xs) : EvR te σ H' xs := fun H1 a Q q => h H1 (e.trans a) Q q
theorem EvS.mono (e : Ex H H') (h : EvS K te σ H xs) : EvS K te σ H' xs := fun H1 a Q q => h H1 (e.trans a) Q q
theorem EvL.is (h : EvL te σ H xs) (e : xs = ys) : EvL te σ H ys := e ▸ h
theorem EvR.is (h : EvR te σ H xs) (e : xs = ys) : EvR te σ H ys := e ▸ h
theorem el_cat (ha : EvR ta σ H xs) (hb : EvR tb σ H ys) (hl : xs.length + ys.length ≤ 100000) : EvL (tOp rCat ta tb) σ H (xs ++ ys) := fun H1 e Q q =>
  ha H1 e _ fun p H2 e2 h2 => hb H2 (e.trans e2) _ fun r H3 e3 h3 => ⟨p, r, xs, ys, rfl, rfl, e3 _ _ h2, h3, sz_of hl, fun l hl => q l _ (fresh_back (e2.trans e3) hl) ((e2.trans e3).trans (Ex.new hl)) upd_same⟩
theorem el_rep {k : Int} (ha : EvR ta σ H xs) (hb : Ev tb σ H (.int k)) (hk : -(2 ^ 63) ≤ k ∧ k < 2 ^ 63) (hl : xs.length * k.toNat ≤ 100000) : EvL (tOp rRep ta tb) σ H (List.replicate k.toNat xs).flatten := fun H1 e Q q =>
  ha H1 e _ fun p H2 e2 h2 => hb H2 (e.trans e2) _ fun H3 e3 => ⟨p, k, xs, rfl, rfl, e3 _ _ h2, hk.1, hk.2, sz_of hl, fun l hl => q l _ (fresh_back (e2.trans e3) hl) ((e2.trans e3).trans (Ex.new hl)) upd_same⟩
theorem rep_one {x : V} (n : Nat) : (List.replicate n [x]).flatten = List.replicate n x := by
  induction n with
  | zero => rfl
  | succ n ih => rw [List.replicate_succ, List.replicate_succ, List.flatten_cons, ih]; rfl
theorem el_of {te : TE} (h : EvS K te σ H xs) : EvL (tCB (rListS K) (tCons te tNil)) σ H xs := fun H1 e Q q =>
  h H1 e _ fun p H2 e2 h2 => ⟨p, xs, rfl, .inl h2, fun l hl => q l _ (fresh_back e2 hl) (e2.trans (Ex.new hl)) upd_same⟩
theorem ev_lenS (h : EvS K te σ H xs) : Ev (tCB (rLenS K) (tCons te tNil)) σ H (.int (xs.length : Int)) := fun H1 e Q q =>
  h H1 e _ fun p H2 e2 h2 => ⟨p, xs, rfl, .inl h2, q H2 e2⟩
theorem ev_sum {ns : List Int} (h : EvS K te σ H (ns.map V.int)) : Ev (tCB (rSum K) (tCons te tNil)) σ H (.int ns.sum) := fun H1 e Q q =>
  h H1 e _ fun p H2 e2 h2 => ⟨p, ns, rfl, h2, q H2 e2⟩
theorem dp_ints {K : PySem.W.Frag} {H : Hp} : ∀ ns : List Int, DpAll K H (ns.map V.int) (ns.map PyData.int)
  | [] => .nil
  | n :: r => .cons (.int n) (dp_ints r)
theorem eqv_ints : ∀ ns ms : List Int, PyData.eqvAll (ns.map PyData.int) (ms.map PyData.int) = decide (ns = ms)
  | [], [] => by simp [PyData.eqvAll]
  | [], _ :: _ => by simp [PyData.eqvAll]
  | _ :: _, [] => by simp [PyData.eqvAll]
  | n :: r, m :: t => by
    show (PyData.eqv (.int n) (.int m) && PyData.eqvAll (r.map PyData.int) (t.map PyData.int)) = _
    rw [eqv_ints r t]
    show ((n == m) && decide (r = t)) = _
    by_cases h1 : n = m <;> by_cases h2 : r = t <;> simp [h1, h2]
theorem canLay_ints : ∀ ns : List Int, PyData.canLayAll0 (ns.map PyData.int) = true
  | [] => by simp [PyData.canLayAll0]
  | n :: r => by
    show PyData.canLayAll0 (PyData.int n :: r.map PyData.int) = true
    rw [PyData.canLayAll0, canLay_ints r]
    simp [PyData.canLay0]
theorem depth_ints : ∀ ns : List Int, PyData.depthAll (ns.map PyData.int) ≤ 1
  | [] => by simp [PyData.depthAll]
  | n :: r => by
    show PyData.depthAll (PyData.int n :: r.map PyData.int) ≤ 1
    have := depth_ints r
    simp only [PyData.depthAll, PyData.depth]
    omega
theorem shaped_ints (ns : List Int) : SeqAt.shaped (.list (ns.map PyData.int)) = true := by
  unfold SeqAt.shaped
  have h1 := canLay_ints ns
  have h2 := depth_ints ns
  have h3 : PyData.depth (.list (ns.map PyData.int)) ≤ 64 := by
    rw [PyData.depth]
    omega
  rw [decide_eq_true h3, Bool.and_true]
  simpa only [PyData.canLay0] using h1
theorem ev_eqI {ns ms : List Int} (ha : EvS K ta σ H (ns.map V.int)) (hb : EvS K tb σ H (ms.map V.int)) : Ev (tOp (rEqD K) ta tb) σ H (.bl (decide (ns = ms))) := fun H1 e Q q =>
  ha H1 e _ fun p H2 e2 h2 => hb H2 (e.trans e2) _ fun r H3 e3 h3 => ⟨.list (ns.map PyData.int), .list (ms.map PyData.int), .lst (ex_l e3 h2) (dp_ints ns), .lst h3 (dp_ints ms), shaped_ints ns, shaped_ints ms, by
    show Q (.bl (PyData.eqvAll (ns.map PyData.int) (ms.map PyData.int))) H3
    rw [eqv_ints]
    exact q H3 (e2.trans e3)⟩
theorem ev_neI {ns ms : List Int} (ha : EvS K ta σ H (ns.map V.int)) (hb : EvS K tb σ H (ms.map V.int)) : Ev (tOp (rNeD K) ta tb) σ H (.bl (!decide (ns = ms))) := fun H1 e Q q =>
  ha H1 e _ fun p H2 e2 h2 => hb H2 (e.trans e2) _ fun r H3 e3 h3 => ⟨.list (ns.map PyData.int), .list (ms.map PyData.int), .lst (ex_l e3 h2) (dp_ints ns), .lst h3 (dp_ints ms), shaped_ints ns, shaped_ints ms, by
    show Q (.bl (!PyData.eqvAll (ns.map PyData.int) (ms.map PyData.int))) H3
    rw [eqv_ints]
    exact q H3 (e2.trans e3)⟩
theorem ev_ixS {i : Nat} {n : Int} {tl ti : TE} {v : V} (h : EvS K tl σ H xs) (hi : Ev ti σ H (.int n)) (ha : atI xs n = some v) : Ev (tOp (rIxL K) tl ti) σ H v := fun H1 e Q q =>
  h H1 e _ fun p H2 e2 h2 => hi H2 (e.trans e2) _ fun H3 e3 => ⟨p, xs, n, v, rfl, rfl, ex_l e3 h2, ha, q H3 (e2.trans e3)⟩
theorem el_slS {tl th : TO} {lo hi : Option Int} (h : EvS K te σ H xs) (h1 : EvO tl σ H lo) (h2 : EvO th σ H hi) : EvL (tSl (rSlL K) te tl th) σ H (cutV xs lo hi) := fun H1 e _ q =>
  h H1 e _ fun a H2 e2 hs => h1 H2 (e.trans e2) _ fun H3 e3 => h2 H3 ((e.trans e2).trans e3) _ fun H4 e4 =>
    ⟨a, xs, rfl, ex_l (e3.trans e4) hs, fun p hp => q p _ (fresh_back ((e2.trans e3).trans e4) hp) (((e2.trans e3).trans e4).trans (Ex.new hp)) upd_same⟩
theorem ev_at {n : Int} {tl ti : TE} {v : V} (h : EvS K tl σ H xs) (hi : Ev ti σ H (.int n)) (ha : atI xs n = some v) : Ev (tOp (rIxL K) tl ti) σ H v := ev_ixS (i := 0) h hi ha
theorem cut_to (xs : List V) (i : Nat) : cutV xs none (some (i : Int)) = xs.take i := by
  unfold cutV
  rw [HT.sIx_none, HT.sIx_nat, List.drop_zero, Nat.sub_zero]
  by_cases h : i ≤ xs.length
  · rw [Nat.min_eq_left h]
  · rw [Nat.min_eq_right (by omega), List.take_of_length_le (Nat.le_refl _), List.take_of_length_le (by omega)]
theorem cut_from (xs : List V) (i : Nat) : cutV xs (some (i : Int)) none = xs.drop i := by
  unfold cutV
  rw [HT.sIx_none, HT.sIx_nat]
  by_cases h : i ≤ xs.length
  · rw [Nat.min_eq_left h, List.take_of_length_le (by rw [List.length_drop]; omega)]
  · rw [Nat.min_eq_right (by omega), List.drop_of_length_le (Nat.le_refl _), List.drop_of_length_le (show xs.length ≤ i by omega), List.take_nil]
theorem cut_mid (xs : List V) (i j : Nat) : cutV xs (some (i : Int)) (some (j : Int)) = (xs.drop i).take (j - i) := by
  unfold cutV
  rw [HT.sIx_nat, HT.sIx_nat]
  by_cases h : i ≤ xs.length
  · rw [Nat.min_eq_left h]
    by_cases h2 : j ≤ xs.length
    · rw [Nat.min_eq_left h2]
    · rw [Nat.min_eq_right (by omega), List.take_of_length_le (by rw [List.length_drop]; omega), List.take_of_length_le (by rw [List.length_drop]; omega)]
  · rw [Nat.min_eq_right (by omega : xs.length ≤ i), List.drop_of_length_le (Nat.le_refl _), List.drop_of_length_le (show xs.length ≤ i by omega)]
    simp
theorem el_to {th : TE} {ns : List Int} {i : Nat} (h : EvS K te σ H (ns.map V.int)) (h2 : Ev th σ H (.int i)) : EvL (tSl (rSlL K) te tNoPart (tPart th)) σ H ((ns.take i).map V.int) :=
  EvL.is (el_slS h eo_none (eo_some h2)) (by rw [List.map_take]; exact cut_to _ i)
theorem el_from {th : TE} {ns : List Int} {i : Nat} (h : EvS K te σ H (ns.map V.int)) (h2 : Ev th σ H (.int i)) : EvL (tSl (rSlL K) te (tPart th) tNoPart) σ H ((ns.drop i).map V.int) :=
  EvL.is (el_slS h (eo_some h2) eo_none) (by rw [List.map_drop]; exact cut_from _ i)
theorem el_mid {t1 t2 : TE} {ns : List Int} {i j : Nat} (h : EvS K te σ H (ns.map V.int)) (h1 : Ev t1 σ H (.int i)) (h2 : Ev t2 σ H (.int j)) : EvL (tSl (rSlL K) te (tPart t1) (tPart t2)) σ H (((ns.drop i).take (j - i)).map V.int) :=
  EvL.is (el_slS h (eo_some h1) (eo_some h2)) (by rw [List.map_take, List.map_drop]; exact cut_mid _ i j)
section
variable {D : Ends} {tz : TS} {sp : Sp} {dvs vs : List V} {E : XK} {tA : TA}
/-- x = f(..), whatever f promises -/
theorem q_asgC {i : Nat} (h : EvA tA σ H vs) (k : ∀ H1, Ex H H1 → sp (vs ++ dvs) H1 (fun x H2 => tz D (σ.set i (some x)) H2) E) : tSeq (tAsg (tCall sp dvs E tA) (gName i)) tz D σ H := h H (Ex.refl H) _ fun H1 e => k H1 e
theorem s_asgC {i : Nat} (h : EvA tA σ H vs) (k : ∀ H1, Ex H H1 → sp (vs ++ dvs) H1 (fun x H2 => D.nx (σ.set i (some x)) H2) E) : tAsg (tCall sp dvs E tA) (gName i) D σ H := h H (Ex.refl H) _ fun H1 e => k H1 e
theorem q_dropC (h : EvA tA σ H vs) (k : ∀ H1, Ex H H1 → sp (vs ++ dvs) H1 (fun _ H2 => tz D σ H2) E) : tSeq (tDrop (tCall sp dvs E tA)) tz D σ H := h H (Ex.refl H) _ fun H1 e => k H1 e
theorem s_retC (h : EvA tA σ H vs) (k : ∀ H1, Ex H H1 → sp (vs ++ dvs) H1 D.rt E) : tRet (tCall sp dvs E tA) D σ H := h H (Ex.refl H) _ fun H1 e => k H1 e
end
theorem gl_get {ns : List Int} {i : Nat} (h : i < ns.length) : ns[i]? = some (ns.getD i 0) := by
  rw [List.getD_eq_getElem?_getD, List.getElem?_eq_getElem h]
  rfl
theorem q_asgRaw {te : TE} {i : Nat} {D : Ends} {tz : TS} (P : V → Hp → Prop) (h : ∀ Q : VK, (∀ x H2, P x H2 → Q x H2) → te σ H Q) (k : ∀ x H2, P x H2 → tz D (σ.set i (some x)) H2) : tSeq (tAsg te (gName i)) tz D σ H := h _ k
/-- a, b = a pair -/
theorem q_asgT {te : TE} {i j : Nat} {D : Ends} {tz : TS} (P : V → V → Hp → Prop) (h : ∀ Q : VK, (∀ t x y H2, P x y H2 → SqT K H2 t [x, y] → Q (.ref t) H2) → te σ H Q) (k : ∀ x y H2, P x y H2 → tz D ((σ.set i (some x)).set j (some y)) H2) :
    tSeq (tAsg te (gTup K 2 (gCons (gName i) (gCons (gName j) gNil)))) tz D σ H := h _ fun t x y H2 hP hT => ⟨t, [x, y], rfl, hT, rfl, x, [y], rfl, y, [], rfl, rfl, k x y H2 hP⟩
/-- the law's cell -/
def cellI (ns : List Int) (k : Int) : Int := ns.getD k.toNat 0
theorem cellI_in {ns : List Int} {k : Int} (h0 : 0 ≤ k) (h : k < ns.length) : ns[k.toNat]? = some (cellI ns k) := by
  unfold cellI
  rw [List.getD_eq_getElem?_getD, List.getElem?_eq_getElem (by omega)]
  rfl
theorem cellI_out {ns : List Int} {k : Int} (h : ¬ k < ns.length) : cellI ns k = 0 := by
  unfold cellI
  rw [List.getD_eq_getElem?_getD, List.getElem?_eq_none (by omega)]
  rfl
end
theorem Ex.get {H H' : Hp} {a : Addr} {o : HO} (e : Ex H H') (h : H a = some o) : H' a = some o := e a o h
local macro_rules | `(tactic| walk_at "hp") => `(tactic| first
  | assumption
  | exact upd_same
  | (refine' Ex.get (by assumption) ?h1; (case h1 => walk_at "hp")))
local macro_rules | `(tactic| walk_at "ex") => `(tactic| first
  | assumption
  | exact Ex.refl _
  | (refine' Ex.trans ?h1 (by assumption); (case h1 => walk_at "ex")))
local macro_rules | `(tactic| walk_at "sq") => `(tactic| first
  | assumption
  | (refine' sq_of ?h1; (case h1 => walk_at "hp"))
  | (refine' ex_l (by assumption) ?h1; (case h1 => walk_at "sq")))
local macro_rules | `(tactic| walk_at "evs") => `(tactic| first
  | (refine' Ev.s ?h1 ?h2; (case h1 => exact ev_var rfl); (case h2 => walk_at "sq"))
  | (refine' EvR.s ?h1; (case h1 => walk_at "evr")))
local macro_rules | `(tactic| walk_at "evr") => `(tactic| first
  | (refine' Ev.r ?h1 ?h2; (case h1 => exact ev_var rfl); (case h2 => walk_at "hp"))
  | (refine' EvL.r ?h1; (case h1 => walk_at "el")))
local macro_rules | `(tactic| walk_at "eo") => `(tactic| first
  | exact eo_none
  | (refine' eo_some ?h1; (case h1 => walk_at "ev")))
local macro_rules | `(tactic| walk_at "el") => `(tactic| first
  | (refine' el_lst ?h1 ?h2; (case h1 => walk_at "ea"); (case h2 => exact Nat.le_of_ble_eq_true rfl))
  | (refine' el_cat ?h1 ?h2 ?h3; (case h1 => walk_at "evr"); (case h2 => walk_at "evr"); (case h3 => walk_at "len"))
  | (refine' el_rep ?h1 ?h2 ?h3 ?h4; (case h1 => walk_at "evr"); (case h2 => walk_at "ev"); (case h3 => walk_at "side2"); (case h4 => walk_at "len"))
  | (refine' el_of ?h1; (case h1 => walk_at "evs"))
  | (refine' el_to ?h1 ?h2; (case h1 => walk_at "evs"); (case h2 => walk_at "ev"))
  | (refine' el_from ?h1 ?h2; (case h1 => walk_at "evs"); (case h2 => walk_at "ev"))
  | (refine' el_mid ?h1 ?h2 ?h3; (case h1 => walk_at "evs"); (case h2 => walk_at "ev"); (case h3 => walk_at "ev"))
  | (refine' el_slS ?h1 ?h2 ?h3; (case h1 => walk_at "evs"); (case h2 => walk_at "eo"); (case h3 => walk_at "eo"))
  | walk_at "elmore")
local macro_rules | `(tactic| walk_at "evmore") => `(tactic| first
  | (refine' ev_lenS ?h1; (case h1 => walk_at "evs"))
  | (refine' ev_sum ?h1; (case h1 => walk_at "evs"))
  | (refine' ev_eqI ?h1 ?h2; (case h1 => walk_at "evs"); (case h2 => walk_at "evs"))
  | (refine' ev_neI ?h1 ?h2; (case h1 => walk_at "evs"); (case h2 => walk_at "evs"))
  | (refine' ev_at ?h1 ?h2 ?h3; (case h1 => walk_at "evs"); (case h2 => walk_at "ev"); (case h3 => walk_at "at"))
  | (refine' ev_isiL ?h1 ?h2; (case h1 => walk_at "ev"); (case h2 => walk_at "hp"))
  | walk_at "evown")
local macro_rules | `(tactic| walk_at "at") => `(tactic| first
  | exact at_of rfl (at_int (by assumption))
  | exact at_of rfl (by assumption))
local macro_rules | `(tactic| walk_at "asgL") => `(tactic| (refine' q_asgL ?h ?h1; (case h => walk_at "el")))
local macro_rules | `(tactic| walk_at "retL") => `(tactic| (refine' s_retL ?h ?h1; (case h => walk_at "el")))

/-- a walk's reading said in other words -/
theorem PI.k {X : Cx} {tg e : Expr} {wi wi' : TI} (h : PI X tg e wi) (q : wi = wi') : PI X tg e wi' := q ▸ h
/-! ### comprehensions whose items are said in a list -/
theorem et_yes {σ : L2.St} {H : Hp} : EvT tYes σ H true := fun H1 _ _ q => q H1 (Ex.refl H1)
section
variable {K : PySem.W.Frag} {σ : L2.St} {H : Hp} {t1 t2 te : TE} {xs ys zs : List V} {vs : List Nat}
theorem take_snoc {zs : List V} {i : Nat} {z : V} (h : zs[i]? = some z) : zs.take (i + 1) = zs.take i ++ [z] := by
  rw [List.take_add_one, h]
  rfl
theorem el_lcZ {j1 j2 : Nat} (zs : List V) (h1 : EvS K t1 σ H xs) (h2 : EvS K t2 σ H ys) (hz : zs.length = min xs.length ys.length) (hb : zs.length ≤ 50000)
    (hw : ∀ x y, wipe (((wipe σ vs).set j1 (some x)).set j2 (some y)) vs = wipe σ vs)
    (he : ∀ (i : Nat) (x y : V) H1, Ex H H1 → xs[i]? = some x → ys[i]? = some y → ∃ z, zs[i]? = some z ∧ Ev te (((wipe σ vs).set j1 (some x)).set j2 (some y)) H1 z) :
    EvL (tLc (iZip K (tCons t1 (tCons t2 tNil))) (gTup K 2 (gCons (gName j1) (gCons (gName j2) gNil))) tYes te vs) σ H zs := fun H0 e Q q =>
  h1 H0 e _ fun p H1 e1 hp => h2 H1 (e.trans e1) _ fun r H2 e2 hr => ⟨p, r, xs, ys, rfl, ex_l e2 hp, hr, fun D hD =>
    ⟨fun i m H' => m = zs.length - i ∧ i ≤ zs.length ∧ Ex H2 H' ∧ H' D = some (.lst (zs.take i)), ⟨zs.length, rfl, Nat.zero_le _, Ex.new hD, upd_same⟩, by
      rintro i m H' ⟨rfl, hi, ex, hd⟩
      have qx : SqL K H' p xs := ex_l (e2.trans ex) hp
      have qy : SqL K H' r ys := ex_l ex hr
      by_cases hlt : i < zs.length
      · have hx : xs[i]? = some xs[i] := List.getElem?_eq_getElem (by omega)
        have hy : ys[i]? = some ys[i] := List.getElem?_eq_getElem (by omega)
        refine .inr ⟨⟨xs, ys, _, _, qx, qy, hx, hy⟩, fun H3 => i + 1 ≤ zs.length ∧ Ex H2 H3 ∧ H3 D = some (.lst (zs.take (i + 1))), fun H3 h3 => ⟨zs.length - (i + 1), by omega, rfl, h3⟩, fun v H3 hv => ?_⟩
        obtain ⟨T, x, y, rfl, hT, rfl, f1, f2⟩ := hv
        have ex3 : Ex H' (upd H' T (.tup [x, y])) := Ex.new hT
        obtain ⟨z, hz1, hz2⟩ := he i x y (upd H' T (.tup [x, y])) ((((e.trans e1).trans e2).trans ex).trans ex3) (f1 _ qx) (f2 _ qy)
        refine ⟨T, [x, y], rfl, st_of upd_same, rfl, x, [y], rfl, y, [], rfl, rfl, hw x y, ?_⟩
        refine hz2 _ (Ex.refl _) _ fun H4 e4 => ⟨zs.take i, e4 _ _ (ex3 _ _ hd), sz_lt (by rw [List.length_take]; omega), hlt, ?_, ?_⟩
        · exact Ex.mut ((ex.trans ex3).trans e4) hD
        · rw [upd_same, take_snoc hz1]
      · have ei : i = zs.length := by omega
        refine .inl ⟨⟨xs, ys, qx, qy, by omega⟩, ?_⟩
        rw [ei, List.take_length] at hd
        exact q D H' (fresh_back (e1.trans e2) hD) ((e1.trans e2).trans ex) hd⟩⟩
/-- over a list, each item kept -/
theorem el_lcS {j : Nat} (zs : List V) (h1 : EvS K t1 σ H xs) (hz : zs.length = xs.length) (hb : zs.length ≤ 50000) (hw : ∀ x, wipe ((wipe σ vs).set j (some x)) vs = wipe σ vs)
    (he : ∀ (i : Nat) (x : V) H1, Ex H H1 → xs[i]? = some x → ∃ z, zs[i]? = some z ∧ Ev te ((wipe σ vs).set j (some x)) H1 z) :
    EvL (tLc (iList K t1) (gName j) tYes te vs) σ H zs := fun H0 e Q q =>
  h1 H0 e _ fun p H1 e1 hp => ⟨p, rfl, ⟨xs, hp⟩, fun D hD => lc_list (xs := xs) (fun i H' => Ex H1 H' ∧ H' D = some (.lst (zs.take i))) ⟨Ex.new hD, upd_same⟩ (fun i H' _ h => ex_l h.1 hp)
    (fun i x H' hi h => ⟨hw x, by
      obtain ⟨z, hz1, hz2⟩ := he i x H' ((e.trans e1).trans h.1) hi
      have hl : i < xs.length := (List.getElem?_eq_some_iff.mp hi).1
      refine hz2 H' (Ex.refl _) _ fun H4 e4 => ⟨zs.take i, e4 _ _ h.2, sz_lt (by rw [List.length_take]; omega), Ex.mut (h.1.trans e4) hD, ?_⟩
      rw [upd_same, take_snoc hz1]⟩)
    (fun H' h => q D H' (fresh_back e1 hD) (e1.trans h.1) (by rw [h.2, ← hz, List.take_length]))⟩
/-- over range(n) -/
theorem el_lcR {ta : TA} {n : Int} {j : Nat} (zs : List V) (h1 : EvA ta σ H [.int n]) (hn : -100000 ≤ n) (hz : zs.length = n.toNat) (hb : zs.length ≤ 50000) (hw : ∀ x, wipe ((wipe σ vs).set j (some x)) vs = wipe σ vs)
    (he : ∀ (i : Nat) H1, Ex H H1 → i < zs.length → ∃ z, zs[i]? = some z ∧ Ev te ((wipe σ vs).set j (some (.int (i : Int)))) H1 z) :
    EvL (tLc (iRng1 ta) (gName j) tYes te vs) σ H zs := fun H0 e Q q =>
  h1 H0 e _ fun H1 e1 => ⟨n, rfl, by omega, by omega, fun D hD => lc_range (lo := 0) (n := n.toNat) (fun i H' => Ex H1 H' ∧ H' D = some (.lst (zs.take i))) ⟨Ex.new hD, upd_same⟩
    (fun i H' hi h => by
      have e0 : (0 : Int) + (i : Int) = (i : Int) := Int.zero_add _
      rw [e0]
      obtain ⟨z, hz1, hz2⟩ := he i H' ((e.trans e1).trans h.1) (by omega)
      refine ⟨hw _, hz2 H' (Ex.refl _) _ fun H4 e4 => ⟨zs.take i, e4 _ _ h.2, sz_lt (by rw [List.length_take]; omega), Ex.mut (h.1.trans e4) hD, ?_⟩⟩
      rw [upd_same, take_snoc hz1])
    (fun H' h => q D H' (fresh_back e1 hD) (e1.trans h.1) (by rw [h.2, show n.toNat = zs.length by omega, List.take_length]))⟩
/-- y = [.. for x in f(..)], whatever f promises -/
theorem s_asgLC {sp : Sp} {dvs args : List V} {E : XK} {ta : TA} {g : TG} {tt : TT} {D : Ends} {i : Nat} (h : EvA ta σ H args) (k : ∀ H1, Ex H H1 → sp (args ++ dvs) H1 (fun x H2 => tAsg (tLc (iList K (tC x)) g tt te vs) (gName i) D σ H2) E) :
    tAsg (tLc (iList K (tCall sp dvs E ta)) g tt te vs) (gName i) D σ H := h H (Ex.refl H) _ fun H1 e => k H1 e
theorem q_asgLC {sp : Sp} {dvs args : List V} {E : XK} {ta : TA} {g : TG} {tt : TT} {D : Ends} {i : Nat} {tz : TS} (h : EvA ta σ H args) (k : ∀ H1, Ex H H1 → sp (args ++ dvs) H1 (fun x H2 => tSeq (tAsg (tLc (iList K (tC x)) g tt te vs) (gName i)) tz D σ H2) E) :
    tSeq (tAsg (tLc (iList K (tCall sp dvs E ta)) g tt te vs) (gName i)) tz D σ H := h H (Ex.refl H) _ fun H1 e => k H1 e
theorem s_retLC {sp : Sp} {dvs args : List V} {E : XK} {ta : TA} {g : TG} {tt : TT} {D : Ends} (h : EvA ta σ H args) (k : ∀ H1, Ex H H1 → sp (args ++ dvs) H1 (fun x H2 => tRet (tLc (iList K (tC x)) g tt te vs) D σ H2) E) :
    tRet (tLc (iList K (tCall sp dvs E ta)) g tt te vs) D σ H := h H (Ex.refl H) _ fun H1 e => k H1 e
end

/-! ### calls with keywords, defaults -/
theorem kwAllN {K : PySem.W.Frag} {D : Addr} : ∀ p ∈ ([] : List (Str × V)), ∃ u, PySem.W.nsIn K D p.1 = some (some u) ∧ RelV p.2 u := fun p hp => by cases hp
theorem kwAllC {K : PySem.W.Frag} {D : Addr} {q : Str × V} {l : List (Str × V)} (h : ∃ u, PySem.W.nsIn K D q.1 = some (some u) ∧ RelV q.2 u) (hl : ∀ p ∈ l, ∃ u, PySem.W.nsIn K D p.1 = some (some u) ∧ RelV p.2 u) : ∀ p ∈ q :: l, ∃ u, PySem.W.nsIn K D p.1 = some (some u) ∧ RelV p.2 u := fun p hp => by
  rcases List.mem_cons.mp hp with rfl | hp
  · exact h
  · exact hl p hp
theorem kwAll1 {K : PySem.W.Frag} {D : Addr} {q : Str × V} (h : ∃ u, PySem.W.nsIn K D q.1 = some (some u) ∧ RelV q.2 u) : ∀ p ∈ [q], ∃ u, PySem.W.nsIn K D p.1 = some (some u) ∧ RelV p.2 u := fun p hp => by
  rcases List.mem_cons.mp hp with rfl | hp
  · exact h
  · cases hp
section
variable {K : PySem.W.Frag} {x qual : Str} {params : Arguments} {body : List Stmt} {scope : Scope} {dvs : List V} {kws : List (Str × V)} {f : Addr} {fd : FuncData} {ps : List Str}
/-- f(a, .., k = v, ..), nothing left to a default, no defaults of place -/
theorem fund_kb0 {g : List Value → List Value → List Value} {gV : List V → List V → List V} (F : FunD K x qual params body scope [] kws f fd) (n : Nat) (ks : List Str)
    (hrel : ∀ {vs : List V} {us : List Value} {zs : List V} {ws : List Value}, Vals vs us → Vals zs ws → Vals (gV vs zs) (g us ws))
    (h : ∀ (kV doc pm : Value) (an : Option Addr) (cdv ct : Value) (us ws : List Value), us.length = n → ws.length = ks.length → bindArgs (PySem.W.fnOf x qual params body scope .none kV doc pm an cdv ct) ⟨us, ks.zip ws⟩ = pure (ps.zip (g us ws))) :
    KBn K fd ps n ks g gV := by
  obtain ⟨oc, od, dV, kV, doc, pm, an, cdv, ct, osl, rfl, lk, hcd, hD, hK⟩ := F.ex
  rcases hD with ⟨_, rfl⟩ | ⟨e, _⟩
  · exact ⟨fun s us ws X l1 l2 => .of_eq (h kV doc pm an cdv ct us ws l1 l2), hrel⟩
  · exact absurd rfl e
/-- the same of a def with defaults of place -/
theorem fund_kb1 {g : List Value → List Value → List Value} {gV : List V → List V → List V} (F : FunD K x qual params body scope dvs kws f fd) (hd : dvs ≠ []) (n : Nat) (ks : List Str)
    (hrel : ∀ {vs : List V} {us : List Value} {zs : List V} {ws : List Value}, Vals vs us → Vals zs ws → Vals (gV vs zs) (g us ws))
    (h : ∀ (T : Addr) (kV doc pm : Value) (an : Option Addr) (cdv ct : Value) (us its ws : List Value), us.length = n → its.length = dvs.length → ws.length = ks.length →
      ∃ k, bindArgs (PySem.W.fnOf x qual params body scope (.ref T) kV doc pm an cdv ct) ⟨us, ks.zip ws⟩ = seqItems? (.ref T) >>= k ∧ k (some its.toArray) = pure (ps.zip (g us ws))) :
    KBn K fd ps n ks g gV := by
  obtain ⟨oc, od, dV, kV, doc, pm, an, cdv, ct, osl, rfl, lk, hcd, hD, hK⟩ := F.ex
  rcases hD with ⟨e, _⟩ | ⟨_, T, o, its, m, rfl, lT, oT, rT⟩
  · exact absurd e hd
  · refine ⟨fun s us ws X l1 l2 => ?_, hrel⟩
    obtain ⟨k, e1, e2⟩ := h T kV doc pm an cdv ct us its ws l1 rT.length.symm l2
    refine BindsTo.of_looks fun M => ?_
    rw [e1]
    exact looks_items X lT oT (.of_pure e2)
end

/-! ### data at any depth -/
mutual
theorem dp_ex {K : PySem.W.Frag} {H H' : Hp} (e : Ex H H') : ∀ (d : PyData) (v : V), Dp K H v d → Dp K H' v d
  | .none, _, h => by cases h; exact .non
  | .bool b, _, h => by cases h; exact .bl b
  | .int i, _, h => by cases h; exact .int i
  | .str x, _, h => by cases h; exact .str x
  | .list ds, _, h => by cases h with | lst hs ha => exact .lst (ex_l e hs) (dpa_ex e ds _ ha)
  | .tuple ds, _, h => by cases h with | tup hs ha => exact .tup (ex_t e hs) (dpa_ex e ds _ ha)
  | .dict _, _, h => by cases h
theorem dpa_ex {K : PySem.W.Frag} {H H' : Hp} (e : Ex H H') : ∀ (ds : List PyData) (vs : List V), DpAll K H vs ds → DpAll K H' vs ds
  | [], _, h => by cases h; exact .nil
  | d :: ds, _, h => by cases h with | cons h1 h2 => exact .cons (dp_ex e d _ h1) (dpa_ex e ds _ h2)
end
def EvD (K : PySem.W.Frag) (te : TE) (σ : L2.St) (H : Hp) (d : PyData) : Prop := ∀ H1, Ex H H1 → ∀ Q : VK, (∀ v H2, Ex H1 H2 → Dp K H2 v d → Q v H2) → te σ H1 Q
section
variable {K : PySem.W.Frag} {σ : L2.St} {H : Hp} {te ta tb t1 t2 t3 : TE} {d d1 d2 d3 : PyData} {v : V}
theorem EvD.of (h : Ev te σ H v) (hd : Dp K H v d) : EvD K te σ H d := fun H1 e Q q => h H1 e _ fun H2 e2 => q v H2 e2 (dp_ex (e.trans e2) d v hd)
theorem EvS.toD {ns : List Int} (h : EvS K te σ H (ns.map V.int)) : EvD K te σ H (.list (ns.map .int)) := fun H1 e Q q => h H1 e _ fun p H2 e2 hp => q (.ref p) H2 e2 (.lst hp (dp_ints ns))
theorem ed_tup2 (h1 : EvD K t1 σ H d1) (h2 : EvD K t2 σ H d2) : EvD K (tTup (tCons t1 (tCons t2 tNil))) σ H (.tuple [d1, d2]) := fun H1 e Q q => h1 H1 e _ fun v H2 e2 hv => h2 H2 (e.trans e2) _ fun u H3 e3 hu =>
  ⟨sz_of (show 2 ≤ 100000 by decide), fun p hp => q (.ref p) _ ((e2.trans e3).trans (Ex.new hp)) (.tup (st_of upd_same) (.cons (dp_ex (e3.trans (Ex.new hp)) _ _ hv) (.cons (dp_ex (Ex.new hp) _ _ hu) .nil)))⟩
theorem ev_eqDD (h1 : EvD K ta σ H d) (h2 : EvD K tb σ H d) (hs : SeqAt.shaped d = true) : Ev (tOp (rEqD K) ta tb) σ H (.bl true) := fun H1 e Q q => h1 H1 e _ fun v H2 e2 hv => h2 H2 (e.trans e2) _ fun u H3 e3 hu =>
  ⟨d, d, dp_ex e3 d v hv, hu, hs, hs, by rw [SeqAt.eqv_refl d (SeqAt.canLay_of_shaped hs)]; exact q H3 (e2.trans e3)⟩
theorem ev_neDD (h1 : EvD K ta σ H d) (h2 : EvD K tb σ H d) (hs : SeqAt.shaped d = true) : Ev (tOp (rNeD K) ta tb) σ H (.bl false) := fun H1 e Q q => h1 H1 e _ fun v H2 e2 hv => h2 H2 (e.trans e2) _ fun u H3 e3 hu =>
  ⟨d, d, dp_ex e3 d v hv, hu, hs, hs, by rw [SeqAt.eqv_refl d (SeqAt.canLay_of_shaped hs)]; exact q H3 (e2.trans e3)⟩
end
theorem shaped_pair (ns ms : List Int) : SeqAt.shaped (.tuple [.list (ns.map .int), .list (ms.map .int)]) = true := by
  unfold SeqAt.shaped
  have h1 := canLay_ints ns
  have h2 := depth_ints ns
  have h3 := canLay_ints ms
  have h4 := depth_ints ms
  rw [Bool.and_eq_true, decide_eq_true_iff]
  refine ⟨by simp only [PyData.canLay0, PyData.canLayAll0, h1, h3, Bool.and_self], ?_⟩
  simp only [PyData.depth, PyData.depthAll]
  omega

/-! ### zip(*xs) of a list of lists, the target a name -/
namespace ZN
theorem forIn_inv {α β : Type} {M : Model} {A : Around} {E : Value → Shared → Prop} (f : α → β → Sem (ForInStep β)) (b : Nat → β) (I : Nat → Shared → Prop) :
    ∀ (xs : List α) (n : Nat) (s : Shared), (∀ (i : Nat) (x : α) (s : Shared), xs[i]? = some x → I (n + i) s → wpAny M A (f x (b (n + i))) (fun r s' => r = .yield (b (n + i + 1)) ∧ I (n + i + 1) s') E s) → I n s → wpAny M A (forIn xs (b n) f) (fun r s' => r = b (n + xs.length) ∧ I (n + xs.length) s') E s
  | [], n, s, _, h => by
    rw [List.forIn_nil]
    exact wpAny_pure ⟨rfl, h⟩
  | x :: xs, n, s, hs, h => by
    rw [List.forIn_cons]
    refine wpAny_bind (wpAny_mono (hs 0 x s rfl h) (fun r s' hr => ?_) fun _ _ z => z)
    obtain ⟨rfl, hi⟩ := hr
    have hr := forIn_inv f b I xs (n + 1) s' (fun i y s2 hy h2 => by
      have := hs (i + 1) y s2 hy (by rw [show n + (i + 1) = n + 1 + i by omega]; exact h2)
      rw [show n + (i + 1) = n + 1 + i by omega] at this
      exact this) hi
    rw [show n + (x :: xs).length = n + 1 + xs.length by rw [List.length_cons]; omega]
    exact hr
theorem typeCall_zip (vs : List Value) : checkTypeCall "zip" ⟨vs, []⟩ = pure () := by kernel_rfl
theorem newCall_zip (a : Value) (vs : List Value) : checkBuiltinCall "zip.__new__" ⟨.type "zip" :: a :: vs, []⟩ = pure () := by kernel_rfl
theorem args_object_init (obj : Value) (vs : List Value) : argsOk "object.__init__" ⟨obj :: vs, []⟩ := by
  unfold argsOk; rw [signature?_of (id := "object.__init__") (n := ['_', '_', 't', 'i', 'n', 'i', '_', '_']) (o := ['t', 'c', 'e', 'j', 'b', 'o']) (by kernel_rfl) F.owner_object]; kernel_rfl
theorem newClass_zip (vs : List Value) : Builtin.SmallTypes.newClass "zip" ⟨.type "zip" :: vs, []⟩ = pure (.type "zip", vs) := by
  unfold Builtin.SmallTypes.newClass
  simp only [isType, sub_zip, pure_bind, Bool.not_true, Bool.false_eq_true, if_false]
abbrev liO (l : Addr) : Obj := { cls := .type "list_iterator", data := .fields #[.ref l, .int 0 0] }
def itH (h : Heap) (ls : List Addr) : Heap := ls.foldl (fun h l => h.push (liO l)) h
theorem itH_size : ∀ (ls : List Addr) (h : Heap), (itH h ls).objs.size = h.objs.size + ls.length
  | [], h => rfl
  | l :: ls, h => by
    show (itH (h.push (liO l)) ls).objs.size = _
    rw [itH_size ls, Heap.size_push, List.length_cons]
    omega
theorem itH_keep : ∀ (ls : List Addr) (h : Heap) (c : Addr) (o : Obj), h.get? c = some o → (itH h ls).get? c = some o
  | [], h, c, o, e => e
  | l :: ls, h, c, o, e => itH_keep ls (h.push (liO l)) c o (Heap.get?_push_of_some _ e)
theorem itH_get : ∀ (ls : List Addr) (h : Heap) (j : Nat) (l : Addr), ls[j]? = some l → (itH h ls).get? (h.objs.size + j) = some (liO l)
  | l :: ls, h, 0, x, e => by
    cases e
    exact itH_keep ls (h.push (liO l)) _ _ (Heap.get?_push_size _ rfl)
  | l :: ls, h, j + 1, x, e => by
    have := itH_get ls (h.push (liO l)) j x e
    rw [Heap.size_push] at this
    rw [show h.objs.size + (j + 1) = h.objs.size + 1 + j by omega]
    exact this
theorem itH_snoc (h : Heap) (ls : List Addr) (l : Addr) : itH h (ls ++ [l]) = (itH h ls).push (liO l) := by unfold itH; rw [List.foldl_append]; rfl
def itVs (h : Heap) (n : Nat) : List Value := (List.range n).map fun j => Value.ref (h.objs.size + j)
section
variable {prog : Program} {w : World} {A : Around} {E : Value → Shared → Prop} {s : Shared}
theorem iterAll_lists {ls : List Addr} {Q : List Value → Shared → Prop} (hl : ∀ l ∈ ls, ∃ xs, s.heap.IsList l xs) (hQ : Q (itVs s.heap ls.length) { s with heap := itH s.heap ls }) :
    wpAny (model prog w) A (Builtin.SmallTypes.iterAll (ls.map Value.ref)) Q E s := by
  unfold Builtin.SmallTypes.iterAll
  refine wpAny_bind (wpAny_mono (forIn_inv _ (fun i => (itVs s.heap i).toArray) (fun i s' => s' = { s with heap := itH s.heap (ls.take i) }) (ls.map Value.ref) 0 s (fun i x s' hx hs' => ?_) rfl) (fun r s' hr => ?_) fun _ _ z => z)
  · subst hs'
    rw [List.getElem?_map] at hx
    obtain ⟨l, hl', rfl⟩ := Option.map_eq_some_iff.mp hx
    obtain ⟨xs, hxs⟩ := hl l (List.mem_of_getElem? hl')
    have hil := (List.getElem?_eq_some_iff.mp hl').1
    rw [Nat.zero_add]
    refine wpAny_bind (wpAny_holding (wpAny_pyIter_list (items := xs) (hxs.at fun o e => itH_keep _ _ _ _ e) ?_))
    refine wpAny_pure ⟨?_, ?_⟩
    · congr 1
      show ((itVs s.heap i).toArray.push (Value.ref (itH s.heap (ls.take i)).objs.size)) = (itVs s.heap (i + 1)).toArray
      rw [itH_size, List.length_take, Nat.min_eq_left (Nat.le_of_lt hil), List.push_toArray]
      congr 1
      unfold itVs
      rw [List.range_succ, List.map_append]
      rfl
    · have : ls.take (i + 1) = ls.take i ++ [l] := by rw [List.take_add_one, hl']; rfl
      rw [this, itH_snoc]
  · obtain ⟨rfl, rfl⟩ := hr
    rw [Nat.zero_add, List.length_map, List.take_length]
    exact wpAny_pure hQ
abbrev zH3 (h : Heap) (ls : List Addr) : Heap := (itH h ls).push { cls := .type "tuple", data := .seq (itVs h ls.length).toArray }
abbrev zH4 (h : Heap) (ls : List Addr) : Heap := (zH3 h ls).push { cls := .type "tuple", data := .seq ((itVs h ls.length).map fun _ => Value.none).toArray }
abbrev zH5 (h : Heap) (ls : List Addr) : Heap := (zH4 h ls).push { cls := .type "zip", data := .fields #[.none, .bool false, .bool false, .ref (itH h ls).objs.size, .ref (zH3 h ls).objs.size] }
theorem meets_zip (ls : List Addr) : Meets (Builtin.«zip.__new__» ⟨.type "zip" :: ls.map Value.ref, []⟩) (fun _ R s => (∀ l ∈ ls, ∃ xs, s.heap.IsList l xs) ∧ ls.length ≤ sizeLine ∧ R (.ok (.ret (.ref (zH4 s.heap ls).objs.size))) { s with heap := zH5 s.heap ls }) :=
  .of_wp fun prog w A R s h => by
    obtain ⟨hl, hz, h⟩ := h
    unfold Builtin.«zip.__new__»
    refine wpAny_bind (wpAny_of_eq (newClass_zip _) ?_)
    dsimp only
    rw [if_neg (by decide)]
    refine wpAny_bind (iterAll_lists hl ?_)
    have hvl : (itVs s.heap ls.length).length = ls.length := by unfold itVs; rw [List.length_map, List.length_range]
    refine wpAny_bind (wpAny_newTuple ?_ (by rw [hvl]; exact hz))
    refine wpAny_bind (wpAny_newTuple ?_ (by rw [List.length_map, hvl]; exact hz))
    refine wpAny_bind ?_
    unfold Builtin.SmallTypes.newRecord
    refine wpAny_newObj_type ?_ (by show 5 ≤ sizeLine + 2; decide)
    exact wpAny_pure ⟨_, rfl, h⟩
end
abbrev zO (TI TO : Addr) (f0 f1 : Value) : Obj := { cls := .type "zip", dict := none, data := .fields #[f0, f1, .bool false, .ref TI, .ref TO], slots := #[] }
abbrev IsTp (h : Heap) (T : Addr) (xs : Array Value) : Prop := h.get? T = some { cls := .type "tuple", data := .seq xs }
structure Apart (z TI TO : Addr) (its ls : List Addr) : Prop where
  TIz : TI ≠ z
  TOz : TO ≠ z
  TITO : TI ≠ TO
  iz : ∀ a ∈ its, a ≠ z ∧ a ≠ TI ∧ a ≠ TO
  nd : ∀ (j k : Nat) (a : Addr), its[j]? = some a → its[k]? = some a → j = k
  lz : ∀ l ∈ ls, l ≠ z ∧ l ≠ TO ∧ l ∉ its
  len : its.length = ls.length
  ne : its ≠ []
/-- the heap in the midst of a turn: the first k iterators have moved -/
structure LSt (h0 : Heap) (z TO : Addr) (its ls : List Addr) (i : Nat) (oz : Obj) (c : Array Value) (k : Nat) (h : Heap) : Prop where
  zip : h.get? z = some oz
  to : IsTp h TO c
  lo : ∀ j a l, j < k → its[j]? = some a → ls[j]? = some l → h.IsListIter a l (i + 1)
  hi : ∀ j a l, k ≤ j → its[j]? = some a → ls[j]? = some l → h.IsListIter a l i
  sz : h.objs.size = h0.objs.size
  fr : ∀ b o, b ≠ z → b ≠ TO → b ∉ its → h0.get? b = some o → h.get? b = some o
theorem Apart.ne' {z TI TO : Addr} {its ls : List Addr} (D : Apart z TI TO its ls) {j k : Nat} {a b : Addr} (h1 : its[j]? = some a) (h2 : its[k]? = some b) (h : j ≠ k) : a ≠ b := fun e => h (D.nd j k a h1 (e ▸ h2))
section
variable {prog : Program} {w : World} {A : Around} {E : Value → Shared → Prop} {s : Shared}
theorem draw {h0 : Heap} {z TI TO : Addr} {its ls : List Addr} {i k : Nat} {oz : Obj} {c : Array Value} {a l : Addr} {xs : Array Value} {x : Value} {Q : Value → Shared → Prop} (D : Apart z TI TO its ls) (L : LSt h0 z TO its ls i oz c k s.heap) (ha : its[k]? = some a) (hl : ls[k]? = some l) (hx : h0.IsList l xs) (hi : xs[i]? = some x)
    (hQ : ∀ h', LSt h0 z TO its ls i oz c (k + 1) h' → Q x { s with heap := h' }) : wpAny (model prog w) A (Builtin.SmallTypes.nextOf (.ref a)) Q E s := by
  have hal := List.mem_of_getElem? ha
  have hll := D.lz l (List.mem_of_getElem? hl)
  refine wpAny_nextOf_list_item (L.hi k a l (Nat.le_refl _) ha hl) (hx.at fun o e => L.fr l o hll.1 hll.2.1 hll.2.2 e) hi fun h' hit hs => hQ h' ?_
  have up : ∀ b o, b ≠ a → s.heap.get? b = some o → h'.get? b = some o := fun b o n e => hs.extBut _ _ n e
  refine ⟨up _ _ (Ne.symm (D.iz a hal).1) L.zip, up _ _ (Ne.symm (D.iz a hal).2.2) L.to, fun j a' l' hj h1 h2 => ?_, fun j a' l' hj h1 h2 => ?_, hs.1.trans L.sz, fun b o b1 b2 b3 e => up b o (fun z => b3 (z ▸ hal)) (L.fr b o b1 b2 b3 e)⟩
  · by_cases hjk : j = k
    · subst hjk
      rw [ha] at h1
      rw [hl] at h2
      cases h1
      cases h2
      exact hit
    · exact (L.lo j a' l' (by omega) h1 h2).at fun o e => up _ o (D.ne' h1 ha hjk) e
  · exact (L.hi j a' l' (by omega) h1 h2).at fun o e => up _ o (D.ne' h1 ha (by omega)) e
theorem wpAny_loadIfAlive {M : Model} {a : Addr} {Q : Option Obj → Shared → Prop} (h : Q (s.heap.get? a) s) : wpAny M A (loadIfAlive a) Q E s := fun Γ p _ => by
  unfold loadIfAlive
  rw [Sem.wp_loadIfAlive]
  exact wpAny_pure (M := M) (A := A) (E := E) h Γ p ‹_›
theorem isFree {z TI TO : Addr} {f0 f1 : Value} (hz : s.heap.get? z = some (zO TI TO f0 f1)) (hf0 : f0 = .none ∨ ∃ T : Nat, f0 = rawInt T) (hf1 : f1 = .bool true ∨ f1 = .bool false) :
    wpAny (model prog w) A (Builtin.SmallTypes.ownedTupleIsFree (.ref z)) (fun b s' => (b = true ∧ s' = s) ∨ (b = false ∧ ∃ h', s' = { s with heap := h' } ∧ h'.get? z = some (zO TI TO f0 (.bool true)) ∧ Heap.SameBut z s.heap h')) E s := by
  unfold Builtin.SmallTypes.ownedTupleIsFree
  refine wpAny_bind (wpAny_field hz rfl (x := f0) rfl ?_)
  rcases hf0 with rfl | ⟨T, rfl⟩
  · exact wpAny_pure (.inl ⟨rfl, rfl⟩)
  · show wpAny _ _ (loadIfAlive _ >>= _) _ _ _
    refine wpAny_bind (wpAny_loadIfAlive ?_)
    cases hT : s.heap.get? (Int.toNat (T : Int)) with
    | none => exact wpAny_pure (.inl ⟨rfl, rfl⟩)
    | some o =>
      show wpAny _ _ (field (.ref z) 1 >>= _) _ _ _
      refine wpAny_bind (wpAny_field hz rfl (x := f1) rfl ?_)
      rcases hf1 with rfl | rfl
      · exact wpAny_pure (.inr ⟨rfl, s.heap, rfl, hz, Heap.SameBut.refl _ _⟩)
      · show wpAny _ _ (setField (.ref z) 1 (.bool true) >>= _) _ _ _
        refine wpAny_bind (wpAny_setField_rec hz (by simp) fun h' hz' hs => ?_)
        exact wpAny_pure (.inr ⟨rfl, h', rfl, hz', hs⟩)
end
section
variable {prog : Program} {w : World} {A : Around} {E : Value → Shared → Prop} {s : Shared}
theorem forIn_invC {α β : Type} {M : Model} (f : α → β → Sem (ForInStep β)) (b : β) (I : Nat → Shared → Prop) (xs : List α) (hs : ∀ (i : Nat) (x : α) (s : Shared), xs[i]? = some x → I i s → wpAny M A (f x b) (fun r s' => r = .yield b ∧ I (i + 1) s') E s) (h : I 0 s) : wpAny M A (forIn xs b f) (fun r s' => r = b ∧ I xs.length s') E s := by
  have := forIn_inv (M := M) (A := A) (E := E) f (fun _ => b) I xs 0 s (fun i x s hx hi => by rw [Nat.zero_add] at hi ⊢; exact hs i x s hx hi) h
  rw [Nat.zero_add] at this
  exact this
theorem updSeq {T : Addr} {c : Array Value} {x : Value} {k : Nat} {Q : Unit → Shared → Prop} (hT : IsTp s.heap T c) (hz : c.size ≤ sizeLine) (h : ∀ h', IsTp h' T (c.setIfInBounds k x) → Heap.SameBut T s.heap h' → Q () { s with heap := h' }) :
    wpAny (model prog w) A (updateSeq T (·.setIfInBounds k x)) Q E s := by
  refine wpAny_updateSeq hT rfl (h _ ?_ (Heap.SameBut.update ..)) hz (by rw [Array.size_setIfInBounds]; exact Nat.le_succ_of_le hz)
  show Heap.get? _ _ = _
  rw [Heap.get?_update_self _ hT rfl]
  simp [Obj.mapSeq]
theorem mix_set {news olds : List Value} {k : Nat} {x : Value} (hl : olds.length = news.length) (hx : news[k]? = some x) : (news.take k ++ olds.drop k).toArray.setIfInBounds k x = (news.take (k + 1) ++ olds.drop (k + 1)).toArray := by
  obtain ⟨hk, hg⟩ := List.getElem?_eq_some_iff.mp hx
  have hko : k < olds.length := by omega
  have h1 : (news.take k).length = k := by rw [List.length_take]; omega
  rw [List.setIfInBounds_toArray, List.set_append_right _ _ (by omega), h1, Nat.sub_self, List.drop_eq_getElem_cons hko, List.set_cons_zero, List.take_add_one, hx, List.append_assoc]
  rfl
/-- the heap between turns -/
def Sts (h : Heap) (z TI TO : Addr) (its ls : List Addr) (i : Nat) : Prop := ∃ (f0 f1 : Value) (olds : List Value), h.get? z = some (zO TI TO f0 f1) ∧ (f0 = .none ∨ ∃ T : Nat, f0 = rawInt T) ∧ (f1 = .bool true ∨ f1 = .bool false) ∧ IsTp h TI (its.map Value.ref).toArray ∧ olds.length = its.length ∧ IsTp h TO (List.toArray olds) ∧ ∀ (j : Nat) (a l : Addr), its[j]? = some a → ls[j]? = some l → h.IsListIter a l i
theorem handed {z TI TO : Addr} {its ls : List Addr} {i : Nat} {news : List Value} {f0 f1 : Value} {c : Array Value} {olds : List Value} {h0 h5 : Heap} {Q : Value → Shared → Prop} (D : Apart z TI TO its ls) (hc : c = olds.toArray) (hol : olds.length = its.length) (hTI : IsTp h0 TI (its.map Value.ref).toArray) (hzl : z < h0.objs.size) (hTOl : TO < h0.objs.size) (L : LSt h0 z TO its ls i (zO TI TO f0 f1) c its.length h5)
    (hQ : ∀ h', Sts h' z TI TO its ls (i + 1) → IsTp h' h0.objs.size news.toArray → h'.objs.size = h0.objs.size + 1 → (∀ c o, c ≠ z → c ≠ TO → c ∉ its → h0.get? c = some o → h'.get? c = some o) → Q (.ref h0.objs.size) { s with heap := h' }) :
    wpAny (model prog w) A (Builtin.SmallTypes.ownedTupleHandOut (.ref z) (.ref h5.objs.size) >>= fun _ => ret (.ref h5.objs.size)) (fun fin s' => ∃ v, fin = .done (.ret v) ∧ Q v s') E { s with heap := h5.push { cls := .type "tuple", data := .seq news.toArray } } := by
  refine wpAny_bind ?_
  unfold Builtin.SmallTypes.ownedTupleHandOut
  have hz6 : (h5.push { cls := .type "tuple", data := .seq news.toArray }).get? z = some (zO TI TO f0 f1) := Heap.get?_push_of_some _ L.zip
  refine wpAny_bind (wpAny_setField_rec hz6 (by simp) fun h7 hz7 hs7 => ?_)
  replace hz7 : h7.get? z = some (zO TI TO (rawInt h5.objs.size) f1) := hz7
  refine wpAny_setField_rec hz7 (by simp) fun h8 hz8 hs8 => ?_
  replace hz8 : h8.get? z = some (zO TI TO (rawInt h5.objs.size) (.bool false)) := hz8
  have up : ∀ c o, c ≠ z → h5.get? c = some o → h8.get? c = some o := fun c o c1 e => hs8.extBut _ _ c1 (hs7.extBut _ _ c1 (Heap.get?_push_of_some _ e))
  have hzl5 : z < h5.objs.size := by rw [L.sz]; exact hzl
  have hT8 : IsTp h8 h5.objs.size news.toArray := hs8.extBut _ _ (Nat.ne_of_gt hzl5) (hs7.extBut _ _ (Nat.ne_of_gt hzl5) (Heap.get?_push_size _ rfl))
  have hsz8 : h8.objs.size = h5.objs.size + 1 := by rw [hs8.1, hs7.1, Heap.size_push]
  have hTI5 := L.fr TI _ D.TIz D.TITO (fun m => (D.iz TI m).2.1 rfl) hTI
  rw [L.sz] at hT8 hsz8
  refine wpAny_pure ⟨_, rfl, ?_⟩
  have hq := hQ h8 ⟨_, _, olds, hz8, .inr ⟨_, rfl⟩, .inr rfl, up _ _ D.TIz hTI5, hol, up _ _ D.TOz (by rw [← hc]; exact L.to), fun j a l h1 h2 => (L.lo j a l (List.getElem?_eq_some_iff.mp h1).1 h1 h2).at fun o e => up _ o (D.iz a (List.mem_of_getElem? h1)).1 e⟩ hT8 hsz8 fun c o c1 c2 c3 e => up c o c1 (L.fr c o c1 c2 c3 e)
  rw [← L.sz] at hq
  exact hq
theorem next_item {z TI TO : Addr} {its ls : List Addr} {i : Nat} {news : List Value} {Q : Value → Shared → Prop} (D : Apart z TI TO its ls) (S : Sts s.heap z TI TO its ls i) (hx : ∀ (j : Nat) (l : Addr), ls[j]? = some l → ∃ xs x, s.heap.IsList l xs ∧ xs[i]? = some x ∧ news[j]? = some x) (hn : news.length = its.length) (hsz : news.length ≤ sizeLine)
    (hQ : ∀ h', Sts h' z TI TO its ls (i + 1) → IsTp h' s.heap.objs.size news.toArray → h'.objs.size = s.heap.objs.size + 1 → (∀ c o, c ≠ z → c ≠ TO → c ∉ its → s.heap.get? c = some o → h'.get? c = some o) → Q (.ref s.heap.objs.size) { s with heap := h' }) :
    wpAny (model prog w) A (Builtin.«zip.__next__» ⟨[.ref z], []⟩) (fun fin s' => ∃ v, fin = .done (.ret v) ∧ Q v s') E s := by
  obtain ⟨f0, f1, olds, hz, hf0, hf1, hTI, ho, hTO, hit⟩ := S
  have hzl : z < s.heap.objs.size := Heap.lt_size hz
  have hTOl : TO < s.heap.objs.size := Heap.lt_size hTO
  have hTIl : TI < s.heap.objs.size := Heap.lt_size hTI
  have hitl : ∀ (j : Nat) a, its[j]? = some a → ∃ l, ls[j]? = some l := fun j a h => by
    have := (List.getElem?_eq_some_iff.mp h).1
    exact ⟨ls[j]'(by rw [← D.len]; exact this), List.getElem?_eq_getElem _⟩
  show wpAny _ _ (field (.ref z) 2 >>= _) _ _ _
  refine wpAny_bind (wpAny_field hz rfl (x := .bool false) rfl ?_)
  show wpAny _ _ (field (.ref z) 3 >>= _) _ _ _
  refine wpAny_bind (wpAny_field hz rfl (x := .ref TI) rfl ?_)
  refine wpAny_bind (wpAny_seqItems hTI rfl ?_)
  dsimp only
  have hne : (its.map Value.ref).toArray.isEmpty = false := by
    have := D.ne
    cases hi : its with
    | nil => exact absurd hi this
    | cons a r => rfl
  rw [if_neg (by rw [hne]; decide)]
  refine wpAny_bind (wpAny_mono (isFree hz hf0 hf1) (fun b s' hb => ?_) fun _ _ y => y)
  rcases hb with ⟨rfl, rfl⟩ | ⟨rfl, h₁, rfl, hz₁, hs₁⟩
  · simp only [if_true]
    refine wpAny_bind (wpAny_rule ?_)
    refine wpAny_bind (wpAny_field hz rfl (x := .ref TO) rfl ?_)
    refine wpAny_bind (wpAny_setField_rec hz (by simp) fun h₁ hz₁ hs₁ => ?_)
    replace hz₁ : h₁.get? z = some (zO TI TO .ellipsis f1) := hz₁
    have L0 : LSt s'.heap z TO its ls i (zO TI TO .ellipsis f1) (news.take 0 ++ olds.drop 0).toArray 0 h₁ := ⟨hz₁, hs₁.extBut _ _ D.TOz hTO, (fun j a l hj => absurd hj (Nat.not_lt_zero j)), (fun j a l _ h1 h2 => (hit j a l h1 h2).at fun o e => hs₁.extBut _ _ (D.iz a (List.mem_of_getElem? h1)).1 e), hs₁.1, fun b o b1 _ _ e => hs₁.extBut _ _ b1 e⟩
    refine wpAny_bind (wpAny_mono (forIn_invC _ _ (fun k t => ∃ h, t = { s' with heap := h } ∧ LSt s'.heap z TO its ls i (zO TI TO .ellipsis f1) (news.take k ++ olds.drop k).toArray k h) _ (fun k x t hxk hI => ?_) ⟨h₁, rfl, L0⟩) (fun r t hr => ?_) fun _ _ y => y)
    · obtain ⟨h, rfl, L⟩ := hI
      rw [List.getElem?_zipIdx, List.getElem?_map] at hxk
      cases ha : its[k]? with
      | none => rw [ha] at hxk; cases hxk
      | some a =>
        rw [ha] at hxk
        obtain rfl := Option.some.inj hxk
        obtain ⟨l, hl⟩ := hitl k a ha
        obtain ⟨xs, x, hxl, hxi, hnk⟩ := hx k l hl
        rw [Nat.zero_add]
        refine wpAny_bind (wpAny_onRaise ?_)
        show wpAny _ _ (Builtin.SmallTypes.nextOf (.ref a) >>= _) _ _ _
        refine wpAny_bind (draw D L ha hl hxl hxi fun h2 L2 => wpAny_pure ?_)
        refine wpAny_bind (wpAny_seqItems L2.to rfl ?_)
        refine wpAny_bind (updSeq L2.to (by rw [List.size_toArray, List.length_append, List.length_take, List.length_drop]; omega) fun h3 hTO3 hs3 => ?_)
        rw [mix_set (ho.trans hn.symm) hnk] at hTO3
        refine wpAny_bind (wpAny_letGo (wpAny_pure ⟨rfl, h3, rfl, ?_⟩))
        exact ⟨hs3.extBut _ _ (Ne.symm D.TOz) L2.zip, hTO3, (fun j a' l' hj h1 h2 => (L2.lo j a' l' hj h1 h2).at fun o e => hs3.extBut _ _ (D.iz a' (List.mem_of_getElem? h1)).2.2 e), (fun j a' l' hj h1 h2 => (L2.hi j a' l' hj h1 h2).at fun o e => hs3.extBut _ _ (D.iz a' (List.mem_of_getElem? h1)).2.2 e), hs3.1.trans L2.sz, fun b o b1 b2 b3 e => hs3.extBut _ _ b2 (L2.fr b o b1 b2 b3 e)⟩
    · obtain ⟨rfl, h5, rfl, L⟩ := hr
      rw [List.length_zipIdx, List.length_map, ← hn, List.take_length, show olds.drop news.length = [] from List.drop_of_length_le (by omega), List.append_nil] at L
      refine wpAny_bind (wpAny_seqItems L.to rfl ?_)
      dsimp only
      refine wpAny_bind (wpAny_newTuple ?_ hsz)
      rw [hn] at L
      exact handed (s := s') D rfl hn hTI hzl hTOl L hQ
  · simp only [Bool.false_eq_true, if_false]
    rw [List.forIn_toArray]
    have L0 : LSt s.heap z TO its ls i (zO TI TO f0 (.bool true)) olds.toArray 0 h₁ := ⟨hz₁, hs₁.extBut _ _ D.TOz hTO, (fun j a l hj => absurd hj (Nat.not_lt_zero j)), (fun j a l _ h1 h2 => (hit j a l h1 h2).at fun o e => hs₁.extBut _ _ (D.iz a (List.mem_of_getElem? h1)).1 e), hs₁.1, fun b o b1 _ _ e => hs₁.extBut _ _ b1 e⟩
    refine wpAny_bind (wpAny_mono (forIn_inv _ (fun k => (none, (news.take k).toArray)) (fun k t => ∃ h, t = { s with heap := h } ∧ LSt s.heap z TO its ls i (zO TI TO f0 (.bool true)) olds.toArray k h) _ 0 _ (fun k x t hxk hI => ?_) ⟨h₁, rfl, L0⟩) (fun r t hr => ?_) fun _ _ y => y)
    · rw [Nat.zero_add] at hI ⊢
      obtain ⟨h, rfl, L⟩ := hI
      rw [List.getElem?_map] at hxk
      cases ha : its[k]? with
      | none => rw [ha] at hxk; cases hxk
      | some a =>
        rw [ha] at hxk
        obtain rfl := Option.some.inj hxk
        obtain ⟨l, hl⟩ := hitl k a ha
        obtain ⟨xs, x, hxl, hxi, hnk⟩ := hx k l hl
        refine wpAny_bind (wpAny_holding ?_)
        show wpAny _ _ (Builtin.SmallTypes.nextOf (.ref a) >>= _) _ _ _
        refine wpAny_bind (draw D L ha hl hxl hxi fun h2 L2 => wpAny_pure ?_)
        refine wpAny_pure ⟨?_, h2, rfl, L2⟩
        rw [List.take_add_one, hnk]
        show ForInStep.yield (none, (news.take k).toArray.push x) = _
        rw [List.push_toArray]
        rfl
    · obtain ⟨rfl, h5, rfl, L⟩ := hr
      rw [Nat.zero_add, List.length_map, ← hn, List.take_length]
      rw [Nat.zero_add, List.length_map] at L
      refine wpAny_bind (wpAny_newTuple ?_ hsz)
      have hTI5 := L.fr TI _ D.TIz D.TITO (fun m => (D.iz TI m).2.1 rfl) hTI
      have up : ∀ c o, h5.get? c = some o → (h5.push { cls := .type "tuple", data := .seq news.toArray }).get? c = some o := fun c o e => Heap.get?_push_of_some _ e
      have hq := hQ (h5.push { cls := .type "tuple", data := .seq news.toArray }) ⟨_, _, olds, up _ _ L.zip, hf0, .inl rfl, up _ _ hTI5, ho, up _ _ L.to, fun j a l h1 h2 => (L.lo j a l (List.getElem?_eq_some_iff.mp h1).1 h1 h2).at fun o e => up _ o e⟩ (by rw [← L.sz]; exact Heap.get?_push_size _ rfl) (by rw [Heap.size_push, L.sz]) fun c o c1 c2 c3 e => up c o (L.fr c o c1 c2 c3 e)
      rw [← L.sz] at hq
      exact wpAny_pure ⟨_, rfl, hq⟩
end
section
variable {prog : Program} {w : World} {A : Around} {E : Value → Shared → Prop} {s : Shared}
theorem next_end {z TI TO a l : Addr} {its ls : List Addr} {i : Nat} {xs : Array Value} {Q : Fin → Shared → Prop} (hh : A.handled = none) (D : Apart z TI TO (a :: its) (l :: ls)) (S : Sts s.heap z TI TO (a :: its) (l :: ls) i) (hl : s.heap.IsList l xs) (hx : xs[i]? = none)
    (hE : ∀ h' e, (∀ c o, c ≠ z → c ≠ TO → c ∉ a :: its → s.heap.get? c = some o → h'.get? c = some o) → (∃ o, h'.get? e = some o ∧ o.cls = .type "StopIteration") → E (.ref e) { s with heap := h' }) :
    wpAny (model prog w) A (Builtin.«zip.__next__» ⟨[.ref z], []⟩) Q E s := by
  obtain ⟨f0, f1, olds, hz, hf0, hf1, hTI, ho, hTO, hit⟩ := S
  have hia := hit 0 a l rfl rfl
  have Da := D.iz a (List.mem_cons_self ..)
  have Dl := D.lz l (List.mem_cons_self ..)
  show wpAny _ _ (field (.ref z) 2 >>= _) _ _ _
  refine wpAny_bind (wpAny_field hz rfl (x := .bool false) rfl ?_)
  show wpAny _ _ (field (.ref z) 3 >>= _) _ _ _
  refine wpAny_bind (wpAny_field hz rfl (x := .ref TI) rfl ?_)
  refine wpAny_bind (wpAny_seqItems hTI rfl ?_)
  dsimp only
  rw [if_neg (show ¬ ((List.map Value.ref (a :: its)).toArray.isEmpty = true) by show ¬ (false = true); decide)]
  refine wpAny_bind (wpAny_mono (isFree hz hf0 hf1) (fun b s' hb => ?_) fun _ _ y => y)
  rcases hb with ⟨rfl, rfl⟩ | ⟨rfl, h₁, rfl, hz₁, hs₁⟩
  · simp only [if_true]
    refine wpAny_bind (wpAny_rule ?_)
    refine wpAny_bind (wpAny_field hz rfl (x := .ref TO) rfl ?_)
    refine wpAny_bind (wpAny_setField_rec hz (by simp) fun h₁ hz₁ hs₁ => ?_)
    replace hz₁ : h₁.get? z = some (zO TI TO .ellipsis f1) := hz₁
    refine wpAny_bind ?_
    simp only [List.map_cons, List.zipIdx_cons, List.forIn_cons]
    refine wpAny_bind (wpAny_bind (wpAny_onRaise ?_))
    show wpAny _ _ (Builtin.SmallTypes.nextOf (.ref a) >>= _) _ _ _
    refine wpAny_bind (wpAny_nextOf_list_end hh (hia.at fun o e => hs₁.extBut _ _ Da.1 e) (hl.at fun o e => hs₁.extBut _ _ Dl.1 e) hx fun h₂ e hs₂ he => ?_)
    obtain ⟨oe, hoe, hce⟩ := he
    have hz₂ : h₂.get? z = some (zO TI TO .ellipsis f1) := hs₂ _ _ (Ne.symm Da.1) hz₁
    have hez : e ≠ z := fun x => by subst x; rw [hz₂] at hoe; cases hoe; simp at hce
    exact wpAny_setField_rec hz₂ (by simp) fun h₃ _ hs₃ => hE h₃ e (fun c o c1 _ c3 x => hs₃.extBut _ _ c1 (hs₂ _ _ (fun z => c3 (z ▸ List.mem_cons_self ..)) (hs₁.extBut _ _ c1 x))) ⟨oe, hs₃.extBut _ _ hez hoe, hce⟩
  · simp only [Bool.false_eq_true, if_false]
    rw [List.forIn_toArray]
    refine wpAny_bind ?_
    simp only [List.map_cons, List.forIn_cons]
    refine wpAny_bind (wpAny_bind (wpAny_holding ?_))
    show wpAny _ _ (Builtin.SmallTypes.nextOf (.ref a) >>= _) _ _ _
    exact wpAny_bind (wpAny_nextOf_list_end hh (hia.at fun o e => hs₁.extBut _ _ Da.1 e) (hl.at fun o e => hs₁.extBut _ _ Dl.1 e) hx fun h₂ e hs₂ he => hE h₂ e (fun c o c1 _ c3 x => hs₂ _ _ (fun z => c3 (z ▸ List.mem_cons_self ..)) (hs₁.extBut _ _ c1 x)) he)
theorem Sts.ty {z TI TO : Addr} {its ls : List Addr} {i : Nat} (S : Sts s.heap z TI TO its ls i) : s.TypeIs (.ref z) "zip" := by
  obtain ⟨f0, f1, olds, hz, _⟩ := S
  exact ⟨_, hz, rfl⟩
theorem pyNext_item {z TI TO : Addr} {its ls : List Addr} {i : Nat} {news : List Value} {Q : Option Value → Shared → Prop} (D : Apart z TI TO its ls) (S : Sts s.heap z TI TO its ls i) (hx : ∀ (j : Nat) (l : Addr), ls[j]? = some l → ∃ xs x, s.heap.IsList l xs ∧ xs[i]? = some x ∧ news[j]? = some x) (hn : news.length = its.length) (hsz : news.length ≤ sizeLine)
    (hQ : ∀ h', Sts h' z TI TO its ls (i + 1) → IsTp h' s.heap.objs.size news.toArray → h'.objs.size = s.heap.objs.size + 1 → (∀ c o, c ≠ z → c ≠ TO → c ∉ its → s.heap.get? c = some o → h'.get? c = some o) → Q (some (.ref s.heap.objs.size)) { s with heap := h' }) :
    wpAny (model prog w) A (pyNext (.ref z)) Q E s := by
  have hT := S.ty
  unfold pyNext
  exact wpAny_bind (wpAny_attempt (wpAny_callSpecial?_slot (name := Str.ofString "__next__") hT F.slot_zip_next
    (wpAny_call_entry F.slot_zip_next hT F.entry_zip_next (next_item D S hx hn hsz fun h' a1 a2 a3 a4 => wpAny_pure (hQ h' a1 a2 a3 a4)) (F.args_zip_next_1 _))))
theorem pyNext_end {z TI TO a l : Addr} {its ls : List Addr} {i : Nat} {xs : Array Value} {Q : Option Value → Shared → Prop} (hh : A.handled = none) (D : Apart z TI TO (a :: its) (l :: ls)) (S : Sts s.heap z TI TO (a :: its) (l :: ls) i) (hl : s.heap.IsList l xs) (hx : xs[i]? = none)
    (hQ : ∀ h', (∀ c o, c ≠ z → c ≠ TO → c ∉ a :: its → s.heap.get? c = some o → h'.get? c = some o) → Q none { s with heap := h' }) : wpAny (model prog w) A (pyNext (.ref z)) Q E s := by
  have hT := S.ty
  unfold pyNext
  refine wpAny_bind (wpAny_attempt (wpAny_callSpecial?_slot (name := Str.ofString "__next__") hT F.slot_zip_next
    (wpAny_call_entry F.slot_zip_next hT F.entry_zip_next (next_end hh D S hl hx fun h' e hk he => ?_) (F.args_zip_next_1 _))))
  obtain ⟨o, ho, hc⟩ := he
  refine wpAny_bind (wpAny_isInstance (T := "StopIteration") (b := true) ⟨o, ho, hc⟩ isSubtype_stop ?_)
  exact wpAny_pure (hQ _ hk)
theorem pyIter_zipN {z TI TO : Addr} {its ls : List Addr} {i : Nat} {Q : Value → Shared → Prop} (S : Sts s.heap z TI TO its ls i) (h : Q (.ref z) s) : wpAny (model prog w) A (pyIter (.ref z)) Q E s := by
  have hT := S.ty
  refine wpAny_pyIter_slot hT F.slot_zip_iter (wpAny_call_entry F.slot_zip_iter hT F.entry_zip_iter ?_ (F.args_zip_iter_1 _))
  show wpAny _ _ (ret (.ref z)) _ _ s
  exact wpAny_pure ⟨_, rfl, "zip", _, hT, F.slot_zip_next.lookup, h⟩
theorem call_zipN {ls : List Addr} {Q : Value → Shared → Prop} (hne : ls ≠ []) (hl : ∀ l ∈ ls, ∃ xs, s.heap.IsList l xs) (hz : ls.length ≤ sizeLine)
    (h : ∀ h' z TI TO its, Apart z TI TO its ls → Sts h' z TI TO its ls 0 → (∀ c ∈ z :: TI :: TO :: its, s.heap.objs.size ≤ c) → (∀ c o, s.heap.get? c = some o → h'.get? c = some o) → Q (.ref z) { s with heap := h' }) :
    wpAny (model prog w) A (call (.type "zip") (ls.map Value.ref)) Q E s := by
  obtain ⟨l0, lr, rfl⟩ : ∃ l0 lr, ls = l0 :: lr := by
    cases ls with
    | nil => exact absurd rfl hne
    | cons x r => exact ⟨x, r, rfl⟩
  refine callType_new F.called_zip (by decide) (typeCall_zip _) (newCall_zip _ _) (fun obj => args_object_init obj _) F.entry_zip_new (meets_zip _) ⟨hl, hz, ?_⟩
  obtain ⟨ls, hls⟩ : ∃ ls, l0 :: lr = ls := ⟨_, rfl⟩
  rw [hls] at hl hz h ⊢
  have hn0 : 0 < ls.length := by rw [← hls]; exact Nat.succ_pos _
  obtain ⟨n, hn⟩ : ∃ n, ls.length = n := ⟨_, rfl⟩
  obtain ⟨b, hb⟩ : ∃ b, s.heap.objs.size = b := ⟨_, rfl⟩
  have z2 : (itH s.heap ls).objs.size = b + n := by rw [itH_size, hb, hn]
  have z3 : (zH3 s.heap ls).objs.size = b + n + 1 := by rw [Heap.size_push, z2]
  have z4 : (zH4 s.heap ls).objs.size = b + n + 2 := by rw [Heap.size_push, z3]
  have g5 : (zH5 s.heap ls).get? (zH4 s.heap ls).objs.size = some _ := Heap.get?_push_size _ rfl
  have g4 : (zH5 s.heap ls).get? (zH3 s.heap ls).objs.size = some _ := Heap.get?_push_of_some _ (Heap.get?_push_size _ rfl)
  have g3 : (zH5 s.heap ls).get? (itH s.heap ls).objs.size = some _ := Heap.get?_push_of_some _ (Heap.get?_push_of_some _ (Heap.get?_push_size _ rfl))
  have kp : ∀ c o, (itH s.heap ls).get? c = some o → (zH5 s.heap ls).get? c = some o := fun c o x => Heap.get?_push_of_some _ (Heap.get?_push_of_some _ (Heap.get?_push_of_some _ x))
  rw [z2, z3, z4] at g5
  rw [z3] at g4
  rw [z2] at g3
  show _ ∧ _
  rw [z4]
  have hits : itVs s.heap ls.length = ((List.range n).map fun j => b + j).map Value.ref := by
    unfold itVs
    rw [List.map_map, hb, hn]
    rfl
  rw [hits] at g3 g4
  have hat : ∀ (j : Nat) (a : Addr), ((List.range n).map fun j => b + j)[j]? = some a → j < n ∧ a = b + j := fun j a h => by
    rw [List.getElem?_map] at h
    obtain ⟨k, hk, rfl⟩ := Option.map_eq_some_iff.mp h
    obtain ⟨hk1, hk2⟩ := List.getElem?_eq_some_iff.mp hk
    rw [List.getElem_range] at hk2
    rw [List.length_range] at hk1
    exact ⟨hk1, by rw [hk2]⟩
  have hmem : ∀ a, a ∈ (List.range n).map (fun j => b + j) → b ≤ a ∧ a < b + n := fun a h => by
    obtain ⟨j, hj⟩ := List.mem_iff_getElem?.mp h
    obtain ⟨h1, rfl⟩ := hat j a hj
    omega
  have hlt : ∀ l ∈ ls, l < b := fun l h => by
    obtain ⟨xs, o, e, _⟩ := hl l h
    rw [← hb]
    exact Heap.lt_size e
  have ne : ∀ {x y : Nat}, (x = y → False) → (show Addr from x) ≠ y := fun h => h
  refine ⟨⟨_, g5, rfl⟩, h _ (b + n + 2) (b + n) (b + n + 1) ((List.range n).map fun j => b + j) ⟨ne (by omega), ne (by omega), ne (by omega), fun a ha => ?_, fun j k a h1 h2 => ?_, fun l hm => ⟨?_, ?_, fun hm2 => ?_⟩, ?_, ?_⟩ ⟨_, _, ((List.range n).map fun j => b + j).map fun _ => Value.none, g5, .inl rfl, .inr rfl, g3, by rw [List.length_map], ?_, fun j a l h1 h2 => ?_⟩ ?_ fun c o e => kp c o (itH_keep ls _ c o e)⟩
  · have := hmem a ha
    exact ⟨ne (by omega), ne (by omega), ne (by omega)⟩
  · have h3 : @Eq Nat a (b + j) := (hat j a h1).2
    have h4 : @Eq Nat a (b + k) := (hat k a h2).2
    omega
  · have h3 : @LT.lt Nat _ l b := hlt l hm
    exact ne (by omega)
  · have h3 : @LT.lt Nat _ l b := hlt l hm
    exact ne (by omega)
  · have h3 : @LT.lt Nat _ l b := hlt l hm
    have h4 : @LE.le Nat _ b l := (hmem l hm2).1
    omega
  · rw [List.length_map, List.length_range, hn]
  · intro e
    have := congrArg List.length e
    rw [List.length_map, List.length_range] at this
    simp at this
    omega
  · rw [List.map_map] at g4
    exact g4
  · obtain ⟨hj, rfl⟩ := hat j a h1
    have := kp _ _ (itH_get ls s.heap j l h2)
    rw [hb] at this
    exact ⟨_, this, rfl, rfl⟩
  · intro c hc
    rcases List.mem_cons.mp hc with rfl | hc
    · omega
    · rcases List.mem_cons.mp hc with rfl | hc
      · omega
      · rcases List.mem_cons.mp hc with rfl | hc
        · omega
        · have := hmem c hc
          omega
end
theorem callWith_typeS {M : Model} {A : Around} {E : Value → Shared → Prop} {s : Shared} {pos p : Pos} {T : String} {e : Expr} {env : Env} {Q : Value → Shared → Prop}
    (h : wpAny M A (eval e env) (fun v s₁ => PySem.W.StarOf M A E v (fun vs s₂ => wpAny M A (call (.type T) vs) Q E s₂) s₁) E s) (he : starEach [.Starred e p] env = [(true, eval e env)] := by rfl) :
    wpAny M A (callWith pos (.type T) [] (backTo pos (starEach [.Starred e p] env)) []) Q E s := by
  rw [he]
  refine PySem.W.ks_call (P := fun _ => True) rfl (fun h _ => ⟨.machine, .inr (.inl rfl), PySem.W.Looks.of_pure rfl⟩) (PySem.W.ks_lone (wpAny_mono h (fun v s₁ h₁ => ?_) fun _ _ x => x))
  unfold PySem.W.StarOf at h₁ ⊢
  exact wpAny_mono h₁ (fun b s₂ h₂ => ⟨h₂.1, wpAny_mono h₂.2 (fun vs s₃ h₃ => ⟨trivial, h₃⟩) fun _ _ x => x⟩) fun _ _ x => x
/-- the lists as they stand at each turn, their items in a new tuple -/
def ItzN (K : PySem.W.Frag) (as : List Addr) : It :=
  ⟨fun i H => ∃ vs : List V, vs.length = as.length ∧ as.length ≤ sizeLine ∧ ∀ (j : Nat) (a : Addr), as[j]? = some a → ∃ (xs : List V) (x : V), SqL K H a xs ∧ xs[i]? = some x ∧ vs[j]? = some x,
    fun i H v H' => ∃ T vs, v = .ref T ∧ H T = none ∧ H' = upd H T (.tup vs) ∧ vs.length = as.length ∧ ∀ (j : Nat) (a : Addr), as[j]? = some a → ∀ xs, SqL K H a xs → xs[i]? = vs[j]?,
    fun i H => ∃ (a : Addr) (xs : List V), as[0]? = some a ∧ SqL K H a xs ∧ xs.length ≤ i⟩
theorem vals_pick {R : Nat → Value → Prop} : ∀ (vs : List V), (∀ (j : Nat) (x : V), vs[j]? = some x → ∃ u, RelV x u ∧ R j u) → ∃ us : List Value, Vals vs us ∧ us.length = vs.length ∧ ∀ (j : Nat), j < vs.length → ∃ u, us[j]? = some u ∧ R j u
  | [], _ => ⟨[], .nil, rfl, fun j hj => absurd hj (Nat.not_lt_zero j)⟩
  | x :: vs, h => by
    obtain ⟨u, hu, hR⟩ := h 0 x rfl
    obtain ⟨us, h1, h2, h3⟩ := vals_pick (R := fun j => R (j + 1)) vs fun j y hy => h (j + 1) y hy
    refine ⟨u :: us, .cons hu h1, by rw [List.length_cons, List.length_cons, h2], fun j hj => ?_⟩
    cases j with
    | zero => exact ⟨u, rfl, hR⟩
    | succ j => exact h3 j (by rw [List.length_cons] at hj; omega)
theorem turn_zipN {P : Program} {w : World} {K : PySem.W.Frag} {x : Str} {tpos : Pos} {as its : List Addr} {z TI TO : Addr} (D : Apart z TI TO its as) :
    Turn P w K (.Name x tpos) (ItzN K as) (z :: TI :: TO :: its) z (fun i h => Sts h z TI TO its as i) where
  mem := List.mem_cons_self ..
  obj := fun i h st c hc => by
    obtain ⟨f0, f1, olds, hz, _, _, hTI, _, hTO, hit⟩ := st
    rcases List.mem_cons.mp hc with rfl | hc
    · exact ⟨_, hz, fun v q => nomatch q⟩
    · rcases List.mem_cons.mp hc with rfl | hc
      · exact ⟨_, hTI, fun v q => nomatch q⟩
      · rcases List.mem_cons.mp hc with rfl | hc
        · exact ⟨_, hTO, fun v q => nomatch q⟩
        · obtain ⟨j, hj⟩ := List.mem_iff_getElem?.mp hc
          have hjl := (List.getElem?_eq_some_iff.mp hj).1
          obtain ⟨o, e, _, d⟩ := hit j c _ hj (List.getElem?_eq_getElem (by rw [← D.len]; exact hjl))
          exact ⟨o, e, fun v q => by rw [d] at q; cases q⟩
  keep := fun i h h' st k => by
    obtain ⟨f0, f1, olds, hz, c1, c2, hTI, c3, hTO, hit⟩ := st
    exact ⟨f0, f1, olds, k z (by simp) _ hz, c1, c2, k TI (by simp) _ hTI, c3, k TO (by simp) _ hTO, fun j a l h1 h2 => (hit j a l h1 h2).at fun o e => k a (by simp [List.mem_of_getElem? h1]) o e⟩
  item := by
    intro X hP hw hK hc i pins s σ H E I hf st hg
    subst hP hw hK
    obtain ⟨vs, hvl, hasz, hv⟩ := hg
    have hz := id st
    obtain ⟨f0, f1, olds, hz, _, _, hTI, _, hTO, hit⟩ := hz
    obtain ⟨us, r, hul, hus⟩ := vals_pick (R := fun j u => ∃ a its, as[j]? = some a ∧ s.heap.IsList a its ∧ its[i]? = some u) vs fun j x hx => by
      have hj := (List.getElem?_eq_some_iff.mp hx).1
      have ha : as[j]? = some (as[j]'(by rw [← hvl]; exact hj)) := List.getElem?_eq_getElem _
      obtain ⟨xs, y, q1, q2, q3⟩ := hv j _ ha
      rw [hx] at q3
      cases q3
      obtain ⟨is, rv, p, _⟩ := I.list q1
      obtain ⟨u, hu, ru⟩ := rv.get q2
      exact ⟨u, ru, _, is.toArray, ha, p.isList, by simpa using hu⟩
    refine pyNext_item D st (news := us) (fun j l hl => ?_) (by rw [hul, hvl, D.len]) (by rw [hul, hvl]; exact hasz) fun h' S' hT hsz hk => ?_
    · obtain ⟨u, h1, a, is, h2, h3, h4⟩ := hus j (by rw [hvl]; exact (List.getElem?_eq_some_iff.mp hl).1)
      rw [hl] at h2
      cases h2
      exact ⟨is, u, h3, h4, h1⟩
    refine ⟨_, rfl, wpAny_pure ?_⟩
    have new : ObjOk X.prog X.w (upd H s.heap.objs.size (.tup vs)) h' s.heap.objs.size (.tup vs) := ⟨by rw [hvl]; exact hasz, us, r, ⟨_, hT, rfl, _, rfl⟩⟩
    have I1 : Inv X pins σ (upd H s.heap.objs.size (.tup vs)) { s with heap := h' } :=
      I.turnedNew (t' := s.toks) (ch := z :: TI :: TO :: its) (fun c o hb q => hk c o (fun q' => hb (by simp [q'])) (fun q' => hb (by simp [q'])) (fun q' => hb (by simp [q'])) q) hf (Nat.le_refl _) new
    refine ⟨.ref s.heap.objs.size, _, I1, rfl, ⟨_, vs, rfl, I.hok.fresh (Nat.le_refl _), rfl, hvl, fun j a ha xs hxs => ?_⟩, S', fun c hcm => ?_⟩
    · obtain ⟨ys, y, q1, q2, q3⟩ := hv j a ha
      rw [I.list_inj hxs q1, q2, q3]
    · have hlt : @LT.lt Nat _ c s.heap.objs.size := by
        rcases List.mem_cons.mp hcm with rfl | hcm
        · exact Heap.lt_size hz
        · rcases List.mem_cons.mp hcm with rfl | hcm
          · exact Heap.lt_size hTI
          · rcases List.mem_cons.mp hcm with rfl | hcm
            · exact Heap.lt_size hTO
            · obtain ⟨j, hj⟩ := List.mem_iff_getElem?.mp hcm
              have hjl := (List.getElem?_eq_some_iff.mp hj).1
              obtain ⟨o, e, _, d⟩ := hit j c _ hj (List.getElem?_eq_getElem (by rw [← D.len]; exact hjl))
              exact Heap.lt_size e
      rw [upd_ne (Nat.ne_of_lt hlt)]
      exact (hf c hcm).1
  done := by
    intro X hP hw hK hc i pins s σ H E I hf st hg
    subst hP hw hK
    obtain ⟨a, xs, ha, hq, hl⟩ := hg
    obtain ⟨is, rv, p, _⟩ := I.list hq
    have l1 := rv.length
    obtain ⟨i0, ir, rfl⟩ : ∃ i0 ir, its = i0 :: ir := by
      cases its with
      | nil => exact absurd rfl D.ne
      | cons x r => exact ⟨x, r, rfl⟩
    obtain ⟨ar, rfl⟩ : ∃ ar, as = a :: ar := by
      cases as with
      | nil => cases ha
      | cons x r => cases ha; exact ⟨r, rfl⟩
    exact pyNext_end (I.ok.hd hc) D st p.isList (by simp; omega) fun h' hk => ⟨rfl, I.turnedL (t' := s.toks) (ch := z :: TI :: TO :: i0 :: ir) (fun c o hb q =>
      hk c o (fun q' => hb (by simp [q'])) (fun q' => hb (by simp [q'])) (fun q' => hb (List.mem_cons_of_mem _ (List.mem_cons_of_mem _ (List.mem_cons_of_mem _ q')))) q) hf⟩
  self := fun A i s Q E st h => pyIter_zipN st h
def iZipS (K : PySem.W.Frag) (te : TE) : TI := fun σ H R => te σ H fun v H1 => ∃ (a : Addr) (as : List Addr), v = .ref a ∧ SqL K H1 a (as.map V.ref) ∧ as ≠ [] ∧ as.length ≤ sizeLine ∧ (∀ b ∈ as, ∃ xs, SqL K H1 b xs) ∧ R (ItzN K as) H1
theorem vals_refs : ∀ {as : List Addr} {us : List Value}, Vals (as.map V.ref) us → us = as.map Value.ref
  | [], _, .nil => rfl
  | a :: as, _, .cons h r => by
    cases h
    rw [vals_refs r]
    rfl
theorem pi_zipS {X : Cx} {e : Expr} {te : TE} {x : Str} {p sp pos tpos : Pos} (hg : Gl X "zip") (hm : X.mg "zip" = none) (he : PE X e te) (hst : starEach [.Starred e sp] X.env = [(true, eval e X.env)] := by rfl) :
    PI X (.Name x tpos) (.Call (.Name "zip" p) [.Starred e sp] [] pos) (iZipS X.K te) := by
  refine ⟨fun pins s σ H R I h => ?_⟩
  refine Call_ (ld_blt I hg hm PyProof.Rows.boot_zip (callWith_typeS (thn (he.run pins s σ H _ I h) fun v s1 ⟨y, H1, I1, ry, a, as, ey, hx, hne, hz, hl, q⟩ => ?_) hst))
  subst ey
  obtain rfl : v = Value.ref a := ry
  refine StX.star_lst I1 hx fun us s2 I2 rv => ?_
  obtain rfl := vals_refs rv
  refine call_zipN hne (fun b hb => ?_) hz fun h' z TI TO its D S fr hk => pyIter_zipN S ?_
  · obtain ⟨xs, hxs⟩ := hl b hb
    obtain ⟨is, _, pl, _⟩ := I2.list hxs
    exact ⟨_, pl.isList⟩
  · have I3 : Inv X pins σ H1 { s2 with heap := h' } := I2.kept (t' := s2.toks) hk
    exact ⟨z, z :: TI :: TO :: its, _, _, H1, rfl, I3, turn_zipN D, S, (fun c hc => I2.fpOk (fr c hc) (I2.hok.fresh (fr c hc))), q⟩
end ZN

/-! ### xs[i::c] of a list -/
namespace SL
def stp {α : Type} (xs : List α) (i c : Nat) : List α := (sliceRange (min (i : Int) (xs.length : Int)) (xs.length : Int) (c : Int)).filterMap fun k => xs[k]?
theorem Vals_opt : ∀ {xs : List V} {us : List Value}, Vals xs us → ∀ k : Nat, (xs[k]? = none ∧ us[k]? = none) ∨ ∃ x u, xs[k]? = some x ∧ us[k]? = some u ∧ RelV x u
  | _, _, .nil, k => .inl ⟨by simp, by simp⟩
  | _, _, .cons r t, 0 => .inr ⟨_, _, rfl, rfl, r⟩
  | _, _, .cons r t, k + 1 => by simpa using Vals_opt t k
theorem Vals_pick {xs : List V} {us : List Value} (h : Vals xs us) : ∀ ks : List Nat, Vals (ks.filterMap fun k => xs[k]?) (ks.filterMap fun k => us[k]?)
  | [] => .nil
  | k :: ks => by
    rcases Vals_opt h k with ⟨h1, h2⟩ | ⟨x, u, h1, h2, r⟩
    · rw [List.filterMap_cons_none h1, List.filterMap_cons_none h2]
      exact Vals_pick h ks
    · rw [List.filterMap_cons_some h1, List.filterMap_cons_some h2]
      exact .cons r (Vals_pick h ks)
theorem stp_vals {xs : List V} {us : List Value} (h : Vals xs us) (i c : Nat) : Vals (stp xs i c) (stp us i c) := by
  unfold stp
  rw [h.length]
  exact Vals_pick h _
theorem stp_len {α : Type} (xs : List α) (i c : Nat) (hc : 0 < c) : (stp xs i c).length ≤ xs.length := by
  unfold stp
  refine Nat.le_trans (List.length_filterMap_le _ _) ?_
  unfold sliceRange
  rw [List.length_map, List.length_range, if_pos (show (c : Int) > 0 by omega)]
  split
  · rename_i h
    have h1 := ceilDiv_le ((xs.length : Int) - min (i : Int) xs.length) c (by omega) (by omega)
    omega
  · omega
theorem stp_pick (its : List Value) (i c : Nat) (hc : 0 < c) : slicePick its.toArray (some (i : Int)) none (some (c : Int)) = (stp its i c).toArray := by
  unfold slicePick stp sliceBounds
  have h1 : ((c : Int) > 0) = True := by simp; omega
  simp only [Option.getD_some, h1, if_true, List.size_toArray, List.getElem?_toArray]
  rw [if_neg (show ¬ ((i : Int) < 0) by omega), show max (0 : Int) (min (i : Int) (its.length : Int)) = min (i : Int) its.length by omega]
theorem fm_congr {α β : Type} {f g : α → Option β} : ∀ l : List α, (∀ x ∈ l, f x = g x) → l.filterMap f = l.filterMap g
  | [], _ => rfl
  | x :: l, h => by rw [List.filterMap_cons, List.filterMap_cons, h x (List.mem_cons_self ..), fm_congr l fun y hy => h y (List.mem_cons_of_mem _ hy)]
theorem stp_eq {α : Type} (xs : List α) (d : α) (n i c : Nat) (hl : xs.length = n * c) (hi : i < c) : stp xs i c = (List.range n).map fun k => xs.getD (i + c * k) d := by
  unfold stp
  cases n with
  | zero =>
    have : xs.length = 0 := by rw [hl]; omega
    rw [this]
    unfold sliceRange
    rw [if_pos (show (c : Int) > 0 by omega), if_neg (by omega)]
    rfl
  | succ m =>
    have hle : c ≤ xs.length := by rw [hl, Nat.succ_mul]; omega
    rw [show min (i : Int) (xs.length : Int) = (i : Int) by omega]
    unfold sliceRange
    rw [if_pos (show (c : Int) > 0 by omega), if_pos (by omega)]
    have hcnt : ((xs.length : Int) - i + c - 1) / (c : Int) = ((m + 1 : Nat) : Int) := by
      rw [show (xs.length : Int) - i + c - 1 = ((c - 1 - i : Nat) : Int) + ((m + 1 : Nat) : Int) * (c : Int) by rw [hl, Int.natCast_mul]; omega, Int.add_mul_ediv_right _ _ (by omega), Int.ediv_eq_zero_of_lt (by omega) (by omega), Int.zero_add]
    rw [hcnt]
    show List.filterMap (fun k => xs[k]?) (List.map (fun k : Nat => ((i : Int) + (c : Int) * (k : Int)).toNat) (List.range ((m + 1 : Nat) : Int).toNat)) = _
    rw [Int.toNat_natCast, List.filterMap_map]
    rw [← List.filterMap_eq_map]
    refine fm_congr _ fun k hk => ?_
    have hk := List.mem_range.mp hk
    have e : ((i : Int) + (c : Int) * (k : Int)).toNat = i + c * k := by rw [← Int.natCast_mul, ← Int.natCast_add, Int.toNat_natCast]
    have hlt : i + c * k < xs.length := by
      have h1 := Nat.mul_le_mul_left c (show k ≤ m by omega)
      rw [hl, Nat.succ_mul, Nat.mul_comm m c]
      omega
    show xs[((i : Int) + (c : Int) * (k : Int)).toNat]? = some (xs.getD (i + c * k) d)
    rw [e, List.getD_eq_getElem?_getD, List.getElem?_eq_getElem hlt]
    rfl
def tStp (K : PySem.W.Frag) (te ta tc : TE) : TE := fun σ H Q => te σ H fun x H1 => tPart ta σ H1 fun lo H2 => tPart tc σ H2 fun st H3 => ∃ (a : Addr) (xs : List V) (i c : Nat), x = .ref a ∧ lo = some (i : Int) ∧ st = some (c : Int) ∧ 0 < c ∧ SqL K H3 a xs ∧ ∀ p, H3 p = none → Q (.ref p) (upd H3 p (.lst (stp xs i c)))
theorem pe_stepL {X : Cx} {e ea ec : Expr} {te ta tc : TE} {p3 pos : Pos} (K0 : PySem.W.Frag) (hK : X.K = K0) (he : PE X e te) (ha : PE X ea ta) (hc : PE X ec tc) : PE X (.Subscript e (.Slice (some ea) none (some ec) p3) pos) (tStp K0 te ta tc) := by
  subst hK
  refine ⟨fun pins s σ H Q I h => ?_⟩
  refine Subscript_ (thn (he.run pins s σ H _ I h) fun v s1 ⟨x, H1, I1, r1, q1⟩ => ?_)
  refine wpAny_Slice (thn ((po_some ha).run pins s1 σ H1 _ I1 q1) fun vl s2 ⟨l, H2, I2, pl, q2⟩ => ?_)
  refine thn (po_none.run pins s2 σ H2 (fun o H3 => o = none ∧ H3 = H2) I2 ⟨rfl, rfl⟩) fun vu s3 ⟨u, H3, I3, pu, eu, e3⟩ => ?_
  subst eu e3
  refine thn ((po_some hc).run pins s3 σ H3 _ I3 q2) fun vs s4 ⟨o, H4, I4, ps, q4⟩ => ?_
  obtain ⟨a, xs, i, c, ex, el, es, hc0, hx, q⟩ := q4
  subst ex el es
  cases r1
  have I5 : Inv X pins σ H4 { s4 with heap := s4.heap.push { cls := .type "slice", data := .fields #[vl, vu, vs] } } := I4.kept (t' := s4.toks) fun b ob q => Heap.get?_push_of_some _ q
  obtain ⟨its, r, ht, hz⟩ := I5.list hx
  have hlen := r.length
  show wpAny (model X.prog X.w) X.A (subscriptTail e (.Slice (some ea) none (some ec) p3) (.ref a) (.ref s4.heap.objs.size)) (EP X pins σ Q) X.xe { s4 with heap := s4.heap.push { cls := .type "slice", data := .fields #[vl, vu, vs] } }
  have hgo : wpAny (model X.prog X.w) X.A (getItem (.ref a) (.ref s4.heap.objs.size)) (EP X pins σ Q) X.xe { s4 with heap := s4.heap.push { cls := .type "slice", data := .fields #[vl, vu, vs] } } := by
    refine wpAny_getItem_list_slice ht.isList (Heap.IsSliceOf.new _ vl vu vs) pl pu ps (by intro h; injection h with h; omega) ?_ (by rw [List.size_toArray]; omega)
    rw [stp_pick its i c hc0]
    refine ⟨.ref _, _, I5.laid (t' := s4.toks) (o := .lst (stp xs i c)) (fun b ob q => Heap.get?_push_of_some _ q) (Nat.le_refl _) ?_, rfl, q _ (I5.hok.fresh (Nat.le_refl _))⟩
    exact ⟨Nat.le_trans (stp_len xs i c hc0) hz, _, 0, stp_vals r i c, Heap.get?_push_size _ rfl⟩
  first
    | exact tail_any (ops := [.ref a, .ref s4.heap.objs.size]) ht.isList.typeIs (PySem.slot_list_getitem.lookup) hgo (by with_unfolding_all rfl)
    | exact tail_any (ops := [.ref s4.heap.objs.size, .ref a]) ht.isList.typeIs (PySem.slot_list_getitem.lookup) hgo (by with_unfolding_all rfl)
end SL

/-! ### x == y by x's own method -/
def rEqO (C : Addr) (sp : Sp) (E : XK) (K : PySem.W.Frag) : R2 := fun x y H Q => ∃ (a dx : Addr) (fs : List (Str × V)) (t : Value), x = .ref a ∧ H a = some (.ins C dx fs) ∧ TyX K H y t ∧ PySem.W.notFirst K C t = true ∧ sp [.ref a, y] H (fun v H' => (∃ b, v = .bl b) ∧ Q v H') E
structure TyC (K : PySem.W.Frag) (C : Addr) : Prop where
  ha : PySem.W.findIn K (.ref C) "__class__" = some (some (.builtin "object.__class__"))
  hn : PySem.W.specialIn K (.builtin "object.__class__") "__get__" = some (some (.builtin "getset_descriptor.__get__"))
  ht : PySem.W.takesIn K (.builtin "object.__class__") = some true
  hm : PySem.W.mroIn K C (.type "object") = some true
theorem TyC.ins {K : PySem.W.Frag} {C : Addr} (t : TyC K C) (c : Cls K C) {H : Hp} {a dx : Addr} {fs : List (Str × V)} (h : H a = some (.ins C dx fs)) : ∀ H1, Ex H H1 → TyX K H1 (.ref a) (.ref C) := fun H1 e => .base (.ins (e _ _ h) c t.ha t.hn t.ht t.hm)
/-- isinstance(x, C), C an own class -/
theorem ev_isiO {K : PySem.W.Frag} {σ : L2.St} {H : Hp} {ta : TE} {x : V} {t : Value} {C : Addr} {b : Bool} (ha : Ev ta σ H x) (ht : ∀ H1, Ex H H1 → TyX K H1 x t) (hk : PySem.W.kitOne K t (.ref C) = some b) : Ev (tCB (rIsi K) (tCons ta (tCons (tC (.ref C)) tNil))) σ H (.bl b) :=
  ev_cb (ea_cons ha (ea_cons ev_c ea_nil)) fun H1 e Q q => ⟨x, .ref C, t, _, b, rfl, .own C, ht H1 e, hk, q H1 (Ex.refl H1)⟩
theorem ev_eqO {K : PySem.W.Frag} {σ : L2.St} {H : Hp} {ta tb : TE} {C a dx : Addr} {fs : List (Str × V)} {y : V} {t : Value} {sp : Sp} {E : XK} {b : Bool} (ha : Ev ta σ H (.ref a)) (hx : H a = some (.ins C dx fs)) (hb : Ev tb σ H y) (ht : ∀ H1, Ex H H1 → TyX K H1 y t) (hn : PySem.W.notFirst K C t = true) (hs : SpV sp [.ref a, y] H (.bl b)) : Ev (tOp (rEqO C sp E K) ta tb) σ H (.bl b) := fun H1 e Q q =>
  ha H1 e _ fun H2 e2 => hb H2 (e.trans e2) _ fun H3 e3 => ⟨a, dx, fs, t, rfl, ((e.trans e2).trans e3) _ _ hx, ht H3 ((e.trans e2).trans e3), hn, hs H3 ((e.trans e2).trans e3) _ (fun H4 e4 => ⟨⟨b, rfl⟩, q H4 ((e2.trans e3).trans e4)⟩) E⟩
theorem op_eqO {X : Cx} {CX : CXT} {C f : Addr} {fd : FuncData} {ps : List Str} {sp : Sp} {E : XK} {n : Nat} (F : FnOk X.prog X.w X.K X.mg X.base CX n f fd ps sp) (hs : PySem.W.findIn X.K (.ref C) "__eq__" = some (some (.ref f))) (hf : PySem.W.isFn X.K (.ref f) = true)
    (hb : Binds X.K fd ps []) (hx : Passes CX X E) (hr : Room n X.A) : OpR X (compareOp .Eq) (rEqO C sp E X.K) := by
  intro pins s σ H x y v u Q I rx ry hq
  obtain ⟨a, dx, fs, t, rfl, ha, ty, hn, hsp⟩ := hq
  cases rx
  obtain ⟨mA, J, _⟩ := ins_get I.hok ha
  obtain ⟨od, J, _⟩ := J.look
  obtain ⟨Pt, Z, hP, _⟩ := kit_of I ry ty
  obtain ⟨m, hF⟩ := I.fr
  show wpAny (model X.prog X.w) X.A (richCompare .Eq (.ref a) u) (EP X pins σ Q) X.xe s
  refine PySem.W.cmp_K (op := .Eq) (tb := t) hr.units0 hF I.ok.mod.kin J (Z.ty _ _ I.kIn hP) hn hs hf ?_
  have hl := F.len _ _ _ _ hsp
  have r2 : Vals [V.ref a, y] [Value.ref a, u] := .cons rfl (.cons ry .nil)
  refine wpAny_call (codeAny_mono (F.run X.A X.stack s H ⟨[.ref a, u], []⟩ [.ref a, u] [.ref a, y] _ E hr I.env0 (by
    have := hb s [.ref a, u] I.kIn (by simpa using hl)
    simpa using this) r2 hsp) fun r s' hq => ?_)
  cases r with
  | error e => exact hx pins σ H s e s' I hq
  | ok fl =>
    cases fl with
    | ret w =>
      obtain ⟨z, H', I', rz, ⟨b, ez⟩, q⟩ := I.after hq
      subst ez
      cases rz
      exact ⟨.bl b, H', I', rfl, q⟩
    | next => exact False.elim hq
    | brk => exact False.elim hq
    | cont => exact False.elim hq
theorem kit_cls' {K : PySem.W.Frag} {C : Addr} {t : Value} (hd : PySem.W.hasDictIn K C = true) (ht : PySem.W.typeIn K (.ref C) = some (.type "type")) (hs : PySem.W.subIn K t (.ref C) = some false) (hn : (t == Value.ref C) = false) : PySem.W.kitOne K t (.ref C) = some false ∧ PySem.W.notFirst K C t = true := by
  obtain ⟨cd, hc, _⟩ := PySem.W.any_some hd
  refine ⟨?_, ?_⟩
  · unfold PySem.W.kitOne PySem.W.kitCls
    rw [hn, if_neg (by decide)]
    show (if ((PySem.W.clsIn K C).isSome && PySem.W.typeIn K (.ref C) == some (.type "type")) = true then PySem.W.subIn K t (.ref C) else none) = _
    rw [hc, ht, if_pos (by simp), hs]
  · unfold PySem.W.notFirst
    rw [hs, hn]
    simp
theorem kit_ty {K : PySem.W.Frag} {C : Addr} {T : String} (hd : PySem.W.hasDictIn K C = true) (ht : PySem.W.typeIn K (.ref C) = some (.type "type")) (hs : PySem.W.subIn K (.type T) (.ref C) = some false) : PySem.W.kitOne K (.type T) (.ref C) = some false ∧ PySem.W.notFirst K C (.type T) = true := kit_cls' hd ht hs rfl
theorem kit_self {K : PySem.W.Frag} {C : Addr} : PySem.W.kitOne K (.ref C) (.ref C) = some true ∧ PySem.W.notFirst K C (.ref C) = true := by
  refine ⟨?_, ?_⟩
  · unfold PySem.W.kitOne
    rw [if_pos (by simp)]
  · unfold PySem.W.notFirst
    simp
theorem kit_ref {K : PySem.W.Frag} {C D : Addr} (hd : PySem.W.hasDictIn K C = true) (ht : PySem.W.typeIn K (.ref C) = some (.type "type")) (hz : PySem.W.subIn K (.ref C) (.ref C) = some true) (hs : PySem.W.subIn K (.ref D) (.ref C) = some false) : PySem.W.kitOne K (.ref D) (.ref C) = some false ∧ PySem.W.notFirst K C (.ref D) = true :=
  kit_cls' hd ht hs (by
    cases h : (Value.ref D == Value.ref C) with
    | false => rfl
    | true =>
      have e := eq_of_beq h
      injection e with e
      subst e
      rw [hz] at hs
      cases hs)

set_option genInjectivity false
set_option genSizeOf false
/-- what the top has left -/
structure TX (K : PySem.W.Frag) (mg : Str → Option Value) where
  a_Audio_init : Addr
  d_Audio_init : FuncData
  F_Audio_init : Fun K "__init__" "Audio.__init__" s_Audio_init a_Audio_init d_Audio_init
  b_Audio_init : Binds K d_Audio_init ["self", "rate", "depth", "channels"] []
  a_Audio_eq : Addr
  d_Audio_eq : FuncData
  F_Audio_eq : Fun K "__eq__" "Audio.__eq__" s_Audio_eq a_Audio_eq d_Audio_eq
  b_Audio_eq : Binds K d_Audio_eq ["self", "other"] []
  a_little_bytes : Addr
  d_little_bytes : FuncData
  F_little_bytes : Fun K "little_bytes" "little_bytes" s_little_bytes a_little_bytes d_little_bytes
  b_little_bytes : Binds K d_little_bytes ["number", "count"] []
  g_little_bytes : mg "little_bytes" = some (.ref a_little_bytes)
  a_little_number : Addr
  d_little_number : FuncData
  F_little_number : Fun K "little_number" "little_number" s_little_number a_little_number d_little_number
  b_little_number : Binds K d_little_number ["data", "place", "count"] []
  g_little_number : mg "little_number" = some (.ref a_little_number)
  a_write_wave : Addr
  d_write_wave : FuncData
  F_write_wave : Fun K "write_wave" "write_wave" s_write_wave a_write_wave d_write_wave
  b_write_wave : Binds K d_write_wave ["audio"] []
  g_write_wave : mg "write_wave" = some (.ref a_write_wave)
  a_read_wave : Addr
  d_read_wave : FuncData
  F_read_wave : Fun K "read_wave" "read_wave" s_read_wave a_read_wave d_read_wave
  b_read_wave : Binds K d_read_wave ["data"] []
  g_read_wave : mg "read_wave" = some (.ref a_read_wave)
  a_sample_bytes : Addr
  d_sample_bytes : FuncData
  F_sample_bytes : Fun K "_sample_bytes" "_sample_bytes" s_sample_bytes a_sample_bytes d_sample_bytes
  b_sample_bytes : Binds K d_sample_bytes ["depth"] []
  g_sample_bytes : mg "_sample_bytes" = some (.ref a_sample_bytes)
  a_chunk : Addr
  d_chunk : FuncData
  F_chunk : Fun K "_chunk" "_chunk" s_chunk a_chunk d_chunk
  b_chunk : Binds K d_chunk ["name", "content"] []
  g_chunk : mg "_chunk" = some (.ref a_chunk)
  a_form_content : Addr
  d_form_content : FuncData
  F_form_content : Fun K "_form_content" "_form_content" s_form_content a_form_content d_form_content
  b_form_content : Binds K d_form_content ["audio"] []
  g_form_content : mg "_form_content" = some (.ref a_form_content)
  a_data_content : Addr
  d_data_content : FuncData
  F_data_content : Fun K "_data_content" "_data_content" s_data_content a_data_content d_data_content
  b_data_content : Binds K d_data_content ["audio"] []
  g_data_content : mg "_data_content" = some (.ref a_data_content)
  a_read_chunk : Addr
  d_read_chunk : FuncData
  F_read_chunk : Fun K "_read_chunk" "_read_chunk" s_read_chunk a_read_chunk d_read_chunk
  b_read_chunk : Binds K d_read_chunk ["data", "place"] []
  g_read_chunk : mg "_read_chunk" = some (.ref a_read_chunk)
  a_read_form : Addr
  d_read_form : FuncData
  F_read_form : Fun K "_read_form" "_read_form" s_read_form a_read_form d_read_form
  b_read_form : Binds K d_read_form ["data", "start", "stop"] []
  g_read_form : mg "_read_form" = some (.ref a_read_form)
  a_read_depth : Addr
  d_read_depth : FuncData
  F_read_depth : Fun K "_read_depth" "_read_depth" s_read_depth a_read_depth d_read_depth
  b_read_depth : Binds K d_read_depth ["data", "start", "bits"] []
  g_read_depth : mg "_read_depth" = some (.ref a_read_depth)
  a_read_samples : Addr
  d_read_samples : FuncData
  F_read_samples : Fun K "_read_samples" "_read_samples" s_read_samples a_read_samples d_read_samples
  b_read_samples : Binds K d_read_samples ["data", "start", "stop", "form"] []
  g_read_samples : mg "_read_samples" = some (.ref a_read_samples)
  a_read_sample : Addr
  d_read_sample : FuncData
  F_read_sample : Fun K "_read_sample" "_read_sample" s_read_sample a_read_sample d_read_sample
  b_read_sample : Binds K d_read_sample ["data", "place", "size", "depth"] []
  g_read_sample : mg "_read_sample" = some (.ref a_read_sample)
  a_law_draw : Addr
  d_law_draw : FuncData
  F_law_draw : Fun K "_law_draw" "_law_draw" s_law_draw a_law_draw d_law_draw
  b_law_draw : Binds K d_law_draw ["cell", "many", "bound"] []
  g_law_draw : mg "_law_draw" = some (.ref a_law_draw)
  a_law_is_integer : Addr
  d_law_is_integer : FuncData
  F_law_is_integer : Fun K "_law_is_integer" "_law_is_integer" s_law_is_integer a_law_is_integer d_law_is_integer
  b_law_is_integer : Binds K d_law_is_integer ["actual"] []
  g_law_is_integer : mg "_law_is_integer" = some (.ref a_law_is_integer)
  a_law_same : Addr
  d_law_same : FuncData
  F_law_same : Fun K "_law_same" "_law_same" s_law_same a_law_same d_law_same
  b_law_same : Binds K d_law_same ["actual", "expected"] []
  g_law_same : mg "_law_same" = some (.ref a_law_same)
  a_law_cell : Addr
  d_law_cell : FuncData
  F_law_cell : Fun K "_law_cell" "_law_cell" s_law_cell a_law_cell d_law_cell
  b_law_cell : Binds K d_law_cell ["script", "k"] []
  g_law_cell : mg "_law_cell" = some (.ref a_law_cell)
  a_law_little : Addr
  d_law_little : FuncData
  F_law_little : Fun K "_law_little" "_law_little" s_law_little a_law_little d_law_little
  b_law_little : Binds K d_law_little ["value", "many"] []
  g_law_little : mg "_law_little" = some (.ref a_law_little)
  a_law_channel : Addr
  d_law_channel : FuncData
  F_law_channel : Fun K "_law_channel" "_law_channel" s_law_channel a_law_channel d_law_channel
  b_law_channel : Binds K d_law_channel ["cell", "many", "depth"] []
  g_law_channel : mg "_law_channel" = some (.ref a_law_channel)
  a_law_chunk : Addr
  d_law_chunk : FuncData
  F_law_chunk : Fun K "_law_chunk" "_law_chunk" s_law_chunk a_law_chunk d_law_chunk
  b_law_chunk : Binds K d_law_chunk ["name", "content"] []
  g_law_chunk : mg "_law_chunk" = some (.ref a_law_chunk)
  a_law_format : Addr
  d_law_format : FuncData
  F_law_format : Fun K "_law_format" "_law_format" s_law_format a_law_format d_law_format
  b_law_format : Binds K d_law_format ["rate", "depth", "count"] []
  g_law_format : mg "_law_format" = some (.ref a_law_format)
  a_law_samples : Addr
  d_law_samples : FuncData
  F_law_samples : Fun K "_law_samples" "_law_samples" s_law_samples a_law_samples d_law_samples
  b_law_samples : Binds K d_law_samples ["channels", "size", "depth"] []
  g_law_samples : mg "_law_samples" = some (.ref a_law_samples)
  a_law_file : Addr
  d_law_file : FuncData
  F_law_file : Fun K "_law_file" "_law_file" s_law_file a_law_file d_law_file
  b_law_file : Binds K d_law_file ["chunks"] []
  g_law_file : mg "_law_file" = some (.ref a_law_file)
  a_law_equal : Addr
  d_law_equal : FuncData
  F_law_equal : Fun K "_law_equal" "_law_equal" s_law_equal a_law_equal d_law_equal
  b_law_equal : Binds K d_law_equal ["audio", "rate", "depth", "channels"] []
  g_law_equal : mg "_law_equal" = some (.ref a_law_equal)
  a_law : Addr
  d_law : FuncData
  F_law : Fun K "law" "law" s_law a_law d_law
  b_law : Binds K d_law ["script"] []
  g_law : mg "law" = some (.ref a_law)
  C_Audio : Addr
  cl_Audio : Cls K C_Audio
  g_Audio : mg "Audio" = some (.ref C_Audio)
  M_Audio : Mk K C_Audio a_Audio_init
  me_Audio_eq : Meth K C_Audio "__eq__" a_Audio_eq
  n_Audio_rate : NoAttr K C_Audio "rate"
  n_Audio_depth : NoAttr K C_Audio "depth"
  n_Audio_channels : NoAttr K C_Audio "channels"
  ty_Audio : TyC K C_Audio
  ki_Audio_Audio : PySem.W.kitOne K (.ref C_Audio) (.ref C_Audio) = some true
  nf_Audio_Audio : PySem.W.notFirst K C_Audio (.ref C_Audio) = true
  m_list : mg "list" = none
  m_isinstance : mg "isinstance" = none
  m_range : mg "range" = none
  m_reversed : mg "reversed" = none
  m_len : mg "len" = none
  m_zip : mg "zip" = none
  m_int : mg "int" = none
  m_bool : mg "bool" = none
  A_RIFF : Addr
  c_RIFF : mg "_RIFF" = some (.ref A_RIFF)
  s_RIFF : ∀ H, SqT K H A_RIFF [V.int 82, V.int 73, V.int 70, V.int 70]
  y_RIFF : ∃ o, K.lookup A_RIFF = some o ∧ o.cls = .type "tuple" ∧ o.dict = none
  A_WAVE : Addr
  c_WAVE : mg "_WAVE" = some (.ref A_WAVE)
  s_WAVE : ∀ H, SqT K H A_WAVE [V.int 87, V.int 65, V.int 86, V.int 69]
  y_WAVE : ∃ o, K.lookup A_WAVE = some o ∧ o.cls = .type "tuple" ∧ o.dict = none
  A_FORM : Addr
  c_FORM : mg "_FORM" = some (.ref A_FORM)
  s_FORM : ∀ H, SqT K H A_FORM [V.int 102, V.int 109, V.int 116, V.int 32]
  y_FORM : ∃ o, K.lookup A_FORM = some o ∧ o.cls = .type "tuple" ∧ o.dict = none
  A_DATA : Addr
  c_DATA : mg "_DATA" = some (.ref A_DATA)
  s_DATA : ∀ H, SqT K H A_DATA [V.int 100, V.int 97, V.int 116, V.int 97]
  y_DATA : ∃ o, K.lookup A_DATA = some o ∧ o.cls = .type "tuple" ∧ o.dict = none
  u_FILE_HEAD : Value
  c_FILE_HEAD : mg "_FILE_HEAD" = some u_FILE_HEAD
  r_FILE_HEAD : RelV (.int (12)) u_FILE_HEAD
  u_CHUNK_HEAD : Value
  c_CHUNK_HEAD : mg "_CHUNK_HEAD" = some u_CHUNK_HEAD
  r_CHUNK_HEAD : RelV (.int (8)) u_CHUNK_HEAD
  u_PLAIN : Value
  c_PLAIN : mg "_PLAIN" = some u_PLAIN
  r_PLAIN : RelV (.int (1)) u_PLAIN
  u_EXTENDED : Value
  c_EXTENDED : mg "_EXTENDED" = some u_EXTENDED
  r_EXTENDED : RelV (.int (65534)) u_EXTENDED
  u_PLAIN_LENGTH : Value
  c_PLAIN_LENGTH : mg "_PLAIN_LENGTH" = some u_PLAIN_LENGTH
  r_PLAIN_LENGTH : RelV (.int (16)) u_PLAIN_LENGTH
  u_EXTENDED_LENGTH : Value
  c_EXTENDED_LENGTH : mg "_EXTENDED_LENGTH" = some u_EXTENDED_LENGTH
  r_EXTENDED_LENGTH : RelV (.int (40)) u_EXTENDED_LENGTH
  u_CHANNELS : Value
  c_CHANNELS : mg "_CHANNELS" = some u_CHANNELS
  r_CHANNELS : RelV (.int (2)) u_CHANNELS
  u_RATE : Value
  c_RATE : mg "_RATE" = some u_RATE
  r_RATE : RelV (.int (4)) u_RATE
  u_ROW_BYTES : Value
  c_ROW_BYTES : mg "_ROW_BYTES" = some u_ROW_BYTES
  r_ROW_BYTES : RelV (.int (12)) u_ROW_BYTES
  u_SAMPLE_BITS : Value
  c_SAMPLE_BITS : mg "_SAMPLE_BITS" = some u_SAMPLE_BITS
  r_SAMPLE_BITS : RelV (.int (14)) u_SAMPLE_BITS
  u_DEPTH : Value
  c_DEPTH : mg "_DEPTH" = some u_DEPTH
  r_DEPTH : RelV (.int (18)) u_DEPTH
  u_SIGN : Value
  c_SIGN : mg "_SIGN" = some u_SIGN
  r_SIGN : RelV (.int (24)) u_SIGN
  A_SIGN_BYTES : Addr
  c_SIGN_BYTES : mg "_SIGN_BYTES" = some (.ref A_SIGN_BYTES)
  s_SIGN_BYTES : ∀ H, SqT K H A_SIGN_BYTES [V.int 1, V.int 0, V.int 0, V.int 0, V.int 0, V.int 0, V.int 16, V.int 0, V.int 128, V.int 0, V.int 0, V.int 170, V.int 0, V.int 56, V.int 155, V.int 113]
  y_SIGN_BYTES : ∃ o, K.lookup A_SIGN_BYTES = some o ∧ o.cls = .type "tuple" ∧ o.dict = none
  u_MOST_RATE : Value
  c_MOST_RATE : mg "_MOST_RATE" = some u_MOST_RATE
  r_MOST_RATE : RelV (.int (1048575)) u_MOST_RATE
  A_SAMPLE_SIZES : Addr
  c_SAMPLE_SIZES : mg "_SAMPLE_SIZES" = some (.ref A_SAMPLE_SIZES)
  s_SAMPLE_SIZES : ∀ H, SqT K H A_SAMPLE_SIZES [V.int 8, V.int 16, V.int 24, V.int 32]
  y_SAMPLE_SIZES : ∃ o, K.lookup A_SAMPLE_SIZES = some o ∧ o.cls = .type "tuple" ∧ o.dict = none
section
variable {P : Program} {w : World} {K : PySem.W.Frag} {mg : Str → Option Value} {base : Heap}
/-! ### int(x), bits of a number -/
theorem Ev.is {σ : L2.St} {H : Hp} {te : TE} {x y : V} (h : Ev te σ H x) (e : x = y) : Ev te σ H y := e ▸ h
theorem ev_int1 {σ : L2.St} {H : Hp} {te : TE} {i : Int} (h : Ev te σ H (.int i)) : Ev (tCB (fun xs H Q => (∃ i, xs = [V.int i] ∧ Q (V.int i) H) ∨ ∃ k, xs = [V.bl k] ∧ Q (V.int (if k = true then 1 else 0)) H) (tCons te tNil)) σ H (.int i) :=
  ev_cb (ea_cons h ea_nil) fun H1 _ Q q => .inl ⟨i, rfl, q H1 (Ex.refl H1)⟩
theorem q_augR {σ : L2.St} {H : Hp} {te : TE} {D : Ends} {tz : TS} {i : Nat} {g : Int → Int → V} {a b : Int} (h1 : σ[i]? = some (some (.int a))) (h : Ev te σ H (.int b)) (k : ∀ H1, Ex H H1 → tz D (σ.set i (some (g a b))) H1) : tSeq (tAug i te (rI0 g)) tz D σ H :=
  ⟨_, h1, h H (Ex.refl H) _ fun H1 e => ⟨a, b, rfl, rfl, k H1 e⟩⟩
theorem s_augR {σ : L2.St} {H : Hp} {te : TE} {D : Ends} {i : Nat} {g : Int → Int → V} {a b : Int} (h1 : σ[i]? = some (some (.int a))) (h : Ev te σ H (.int b)) (k : ∀ H1, Ex H H1 → D.nx (σ.set i (some (g a b))) H1) : tAug i te (rI0 g) D σ H :=
  ⟨_, h1, h H (Ex.refl H) _ fun H1 e => ⟨a, b, rfl, rfl, k H1 e⟩⟩
theorem ev_atT {K : PySem.W.Frag} {σ : L2.St} {H : Hp} {tl ti : TE} {t : Addr} {xs : List V} {n : Int} {v : V} (h : Ev tl σ H (.ref t)) (hT : SqT K H t xs) (hi : Ev ti σ H (.int n)) (ha : atI xs n = some v) : Ev (tOp (rIxT K) tl ti) σ H v := fun H1 e Q q =>
  h H1 e _ fun H2 e2 => hi H2 (e.trans e2) _ fun H3 e3 => ⟨t, xs, n, v, rfl, rfl, ex_t ((e.trans e2).trans e3) hT, ha, q H3 (e2.trans e3)⟩
local macro_rules | `(tactic| walk_at "side") => `(tactic| first
  | omega
  | (show CDivW _ _; exact ⟨by omega, by decide⟩)
  | (show CDivW _ _; exact wide_div (b := 80) (by omega) (by omega) (by decide) (by decide)))
local macro_rules | `(tactic| walk_at "evown") => `(tactic| (refine' ev_int1 ?h1; (case h1 => walk_at "ev")))
/-- numbers from 0 on, as such -/
def cs (ds : List Nat) : List Int := ds.map fun d : Nat => (d : Int)
theorem cs_of {ns : List Int} {b : Int} (h : ∀ n ∈ ns, 0 ≤ n ∧ n < b) : ∃ ds : List Nat, ns = cs ds ∧ ds.length = ns.length ∧ ∀ d ∈ ds, (d : Int) < b := by
  refine ⟨ns.map Int.toNat, ?_, List.length_map .., fun d hd => ?_⟩
  · unfold cs
    rw [List.map_map]
    conv => lhs; rw [← List.map_id ns]
    refine List.map_congr_left fun n hn => ?_
    have := (h n hn).1
    show n = ((n.toNat : Nat) : Int)
    omega
  · obtain ⟨n, hn, rfl⟩ := List.mem_map.mp hd
    have := h n hn
    omega
theorem cs_len (ds : List Nat) : (cs ds).length = ds.length := List.length_map ..
theorem cs_at {ds : List Nat} {i : Nat} {d : Nat} (h : ds[i]? = some d) : (cs ds)[i]? = some (d : Int) := by unfold cs; rw [List.getElem?_map, h]; rfl
theorem cs_take (ds : List Nat) (i : Nat) : (cs ds).take i = cs (ds.take i) := by unfold cs; rw [List.map_take]
theorem cs_drop (ds : List Nat) (i : Nat) : (cs ds).drop i = cs (ds.drop i) := by unfold cs; rw [List.map_drop]
theorem cs_append (ds es : List Nat) : cs (ds ++ es) = cs ds ++ cs es := List.map_append ..

/-- numbers of the law -/
def sp_draw : Sp := fun vs H Q _ => ∃ c m b : Int, vs = [.int c, .int m, .int b] ∧ 0 ≤ m ∧ m ≤ 5000 ∧ 0 < b ∧ b ≤ 2 ^ 64 ∧ ∀ p (ns : List Int) H', H p = none → Ex H H' → H' p = some (.lst (ns.map V.int)) → (ns.length : Int) = m → (∀ n ∈ ns, 0 ≤ n ∧ n < b) → Q (.ref p) H'
theorem ok_law_draw (T : TX K mg) : FnOk P w K mg base CX0 1 T.a_law_draw T.d_law_draw ["cell", "many", "bound"] sp_draw := by
  refine T.F_law_draw.ok sc_law_draw (fun vs H Q E h => by obtain ⟨c, m, b, rfl, _⟩ := h; rfl) (fun cdv A outer s H vs Q E hr h => ?_)
  obtain ⟨c, m, b, rfl, hm0, hm, hb0, hb, k⟩ := h
  have hb' : b ≤ 18446744073709551616 := hb
  refine ⟨_, (pss_cons (ps_set (i := 3) sc_law_draw.nd rfl (Or.inl rfl) (pe_lst pa_nil))
      (pss_cons (ps_if (pt_cmpR op_ge (pv 0) (pe_op op_pow pe_int pe_int) (nomark _)) (pss_cons (ps_for PassesOwn.never rfl (pi_range1 (by rfl) T.m_range (pa_cons (pv 1) pa_nil)) (pg_name (i := 4) sc_law_draw.nd rfl (Or.inl rfl)) (pss_cons (ps_expr (pe_bm PySem.F.plainAttrs_list PySem.F.slot_list_append PySem.F.type_list_append mt_append (pv 3) (pa_cons (pe_op op_mod (pe_callTy call_int1 (by rfl) T.m_int PyProof.Rows.boot_int (pa_cons (pv 0) pa_nil)) (pv 2)) pa_nil)))
          (pss_one (ps_set (i := 0) sc_law_draw.nd rfl (Or.inl rfl) (pe_op op_fdivW (pv 0) (pv 2))))))
        (pss_one (ps_ret (pv 3)))) pss_nil)
      (pss_cons (ps_set (i := 5) sc_law_draw.nd rfl (Or.inl rfl) (pe_op op_mod (pe_callTy call_int1 (by rfl) T.m_int PyProof.Rows.boot_int (pa_cons (pv 0) pa_nil)) pe_int))
      (pss_cons (ps_for PassesOwn.never rfl (pi_range1 (by rfl) T.m_range (pa_cons (pv 1) pa_nil)) (pg_name (i := 4) sc_law_draw.nd rfl (Or.inl rfl)) (pss_cons (ps_set (i := 5) sc_law_draw.nd rfl (Or.inl rfl) (pe_op op_mod (pe_callTy call_int1 (by rfl) T.m_int PyProof.Rows.boot_int (pa_cons (pe_op op_add (pe_op op_add (pe_op op_mul (pv 5) pe_int) pe_int) (pv 4)) pa_nil)) pe_int))
        (pss_cons (ps_set (i := 6) sc_law_draw.nd rfl (Or.inl rfl) (pe_op op_mod (pe_callTy call_int1 (by rfl) T.m_int PyProof.Rows.boot_int (pa_cons (pe_op op_add (pe_op op_mul (pv 5) pe_int) (pe_op op_mul pe_int (pv 4))) pa_nil)) pe_int))
        (pss_one (ps_expr (pe_bm PySem.F.plainAttrs_list PySem.F.slot_list_append PySem.F.type_list_append mt_append (pv 3) (pa_cons (pe_op op_mod (pe_callTy call_int1 (by rfl) T.m_int PyProof.Rows.boot_int (pa_cons (pe_op op_fdivW (pv 6) pe_int) pa_nil)) (pv 2)) pa_nil)))))))
      (pss_one (ps_ret (pv 3))))))), ?_⟩
  refine q_asgL (xs := []) (el_lst ea_nil (by decide)) fun p H1 hp e1 h1 => ?_
  refine' q_when (et_test (ev_I0 ?h1 ?h2)) ?_ ?_
  case h1 => walk_at "ev"
  case h2 => exact ev_I (ev_c) (ev_c) ⟨by decide, by decide, by decide⟩
  · intro _ H2 e2
    refine q_forR1 (n := m) (ea_cons (ev_var rfl) ea_nil) ⟨hm0, by omega⟩ (fun i σ' H' => ∃ (c' : Int) (k' : Option V) (ns : List Int), σ' = [some (.int c'), some (.int m), some (.int b), some (.ref p), k', none, none] ∧ Ex H H' ∧ H' p = some (.lst (ns.map V.int)) ∧ ns.length = i ∧ ∀ n ∈ ns, 0 ≤ n ∧ n < b)
      (fun H3 e3 => ⟨c, none, [], rfl, (e1.trans e2).trans e3, e3 _ _ (e2 _ _ h1), rfl, fun n hn => by cases hn⟩) ?_ ?_
    · rintro i σ' H' hi ⟨c', k', ns, rfl, ex, hl, hn, hns⟩
      refine q_app (v := .int (c' % b)) hl (ev_var rfl) (ev_I (ev_int1 (ev_var rfl)) (ev_var rfl) hb0) (by rw [List.length_map]; omega) fun H3 e3 => ?_
      refine s_asg (v := .int (c' / b)) (ev_I (ev_var rfl) (ev_var rfl) (by walk_at "side")) fun H4 e4 => ?_
      refine ⟨c' / b, some (.int i), ns ++ [c' % b], rfl, (Ex.mut (ex.trans e3) hp).trans e4, e4 _ _ (by rw [upd_same, List.map_append]; rfl), by rw [List.length_append, hn]; rfl, fun n hn => ?_⟩
      rcases List.mem_append.mp hn with h | h
      · exact hns n h
      · cases List.mem_singleton.mp h
        exact ⟨Int.emod_nonneg _ (by omega), Int.emod_lt_of_pos _ hb0⟩
    · rintro σ' H' ⟨c', k', ns, rfl, ex, hl, hn, hns⟩
      walk_at "ret"
      intro H3 e3
      exact k p ns H3 hp (ex.trans e3) (e3 _ _ hl) (by omega) hns
  · intro _ H2 e2
    refine q_asg (v := .int (c % 2147483647)) (ev_I (ev_int1 (ev_var rfl)) ev_c (by decide)) fun H3 e3 => ?_
    refine q_forR1 (n := m) (ea_cons (ev_var rfl) ea_nil) ⟨hm0, by omega⟩ (fun i σ' H' => ∃ (k' x : Option V) (sd : Int) (ns : List Int), σ' = [some (.int c), some (.int m), some (.int b), some (.ref p), k', some (.int sd), x] ∧ Ex H H' ∧ H' p = some (.lst (ns.map V.int)) ∧ ns.length = i ∧ ∀ n ∈ ns, 0 ≤ n ∧ n < b)
      (fun H4 e4 => ⟨none, none, _, [], rfl, ((e1.trans e2).trans e3).trans e4, e4 _ _ (e3 _ _ (e2 _ _ h1)), rfl, fun n hn => by cases hn⟩) ?_ ?_
    · rintro i σ' H' hi ⟨k', x, sd, ns, rfl, ex, hl, hn, hns⟩
      refine q_asg (v := .int ((sd * 48271 + 12345 + (i : Int)) % 2147483647)) (ev_I (ev_int1 (ev_I0 (ev_I0 (ev_I (ev_var rfl) ev_c (.inr (by decide))) ev_c) (ev_var rfl))) ev_c (by decide)) fun H4 e4 => ?_
      generalize (sd * 48271 + 12345 + (i : Int)) % 2147483647 = sd2
      refine q_asg (v := .int ((sd2 * 69621 + 977 * (i : Int)) % 2147483629)) (ev_I (ev_int1 (ev_I0 (ev_I (ev_var rfl) ev_c (.inr (by decide))) (ev_I ev_c (ev_var rfl) (.inl (by decide))))) ev_c (by decide)) fun H5 e5 => ?_
      generalize (sd2 * 69621 + 977 * (i : Int)) % 2147483629 = mx
      refine s_app (v := .int (mx / 3 % b)) (e5 _ _ (e4 _ _ hl)) (ev_var rfl) (ev_I (ev_int1 (ev_I (ev_var rfl) ev_c ⟨by decide, by decide⟩)) (ev_var rfl) hb0) (by rw [List.length_map]; omega) fun H6 e6 => ?_
      refine ⟨_, _, sd2, ns ++ [mx / 3 % b], rfl, Ex.mut (((ex.trans e4).trans e5).trans e6) hp, by rw [upd_same, List.map_append]; rfl, by rw [List.length_append, hn]; rfl, fun n hn => ?_⟩
      rcases List.mem_append.mp hn with h | h
      · exact hns n h
      · cases List.mem_singleton.mp h
        exact ⟨Int.emod_nonneg _ (by omega), Int.emod_lt_of_pos _ hb0⟩
    · rintro σ' H' ⟨k', x, sd, ns, rfl, ex, hl, hn, hns⟩
      walk_at "ret"
      intro H4 e4
      exact k p ns H4 hp (ex.trans e4) (e4 _ _ hl) (by omega) hns

def sp_cell (K : PySem.W.Frag) : Sp := fun vs H Q _ => ∃ (a : Addr) (ns : List Int) (k : Int), vs = [.ref a, .int k] ∧ SqL K H a (ns.map V.int) ∧ 0 ≤ k ∧ RetV (.int (cellI ns k)) H Q
theorem ok_law_cell (T : TX K mg) : FnOk P w K mg base CX0 1 T.a_law_cell T.d_law_cell ["script", "k"] (sp_cell K) := by
  refine T.F_law_cell.ok sc_law_cell (fun vs H Q E h => by obtain ⟨a, ns, k, rfl, _⟩ := h; rfl) (fun cdv A outer s H vs Q E hr h => ?_)
  obtain ⟨a, ns, k, rfl, hS, hk, q⟩ := h
  refine ⟨_, (pss_cons (ps_if (pt_cmpR op_lt (pv 1) (pe_callB (r := rLenS K) call_len_seq (by rfl) T.m_len PySem.boot_len (pa_cons (pv 0) pa_nil)) (nomark _)) (pss_one (ps_ret (pe_ix (r := rIxL K) ix_list (pv 0) (pv 1) (fun _ _ => rfl)))) pss_nil)
      (pss_one (ps_ret pe_int))), ?_⟩
  have hl := (ev_lenS (K := K) (Ev.s (te := tVar 0) (σ := start ["script", "k"] [.ref a, .int k]) (ev_var rfl) hS))
  refine q_when (et_test (ev_I0 (ev_var rfl) hl)) ?_ ?_
  · intro hb H1 e1
    have hb : k < ns.length := by
      have := of_decide_eq_true hb
      rwa [List.length_map] at this
    refine s_ret (v := .int (cellI ns k)) (ev_ixS (i := 0) (n := k) (Ev.s (ev_var rfl) (ex_l e1 hS)) (ev_var rfl) ?_) fun H2 e2 => q H2 (e1.trans e2)
    exact at_of (j := k.toNat) (by omega) (at_int (cellI_in hk hb))
  · intro hb H1 e1
    have hb : ¬ k < ns.length := by
      have := of_decide_eq_false hb
      rwa [List.length_map] at this
    walk_at "ret"
    intro H2 e2
    exact ret_eq q (e1.trans e2) (by rw [cellI_out hb])
theorem ev_cell {σ : L2.St} {H : Hp} {ta tk : TE} {E : XK} {ns : List Int} {k : Int} {a : Addr} (ha : Ev ta σ H (.ref a)) (hS : SqL K H a (ns.map V.int)) (hk : Ev tk σ H (.int k)) (h0 : 0 ≤ k) : Ev (tCall (sp_cell K) [] E (tCons ta (tCons tk tNil))) σ H (.int (cellI ns k)) :=
  ev_call (ea_cons ha (ea_cons hk ea_nil)) fun H1 e Q q _ => ⟨a, ns, k, rfl, ex_l e hS, h0, q⟩
local macro_rules | `(tactic| walk_at "evown") => `(tactic| (refine' ev_cell ?h1 ?h2 ?h3 ?h4; (case h1 => exact ev_var rfl); (case h2 => walk_at "sq"); (case h3 => walk_at "ev"); (case h4 => walk_at "side")))

/-! ### objects: fields, methods, making -/
section
variable {K : PySem.W.Frag} {σ : L2.St} {H : Hp} {to te tv : TE} {a C : Addr} {dx : Addr} {fs : List (Str × V)} {f m : Str} {v : V} {D : Ends} {tz : TS} {sp : Sp} {dvs vs : List V} {E : XK} {t : TA}
theorem ev_fld (c : Cls K C) (hn : NoAttr K C f) (h : Ev to σ H (.ref a)) (hx : H a = some (.ins C dx fs)) (hl : fs.lookup f = some v) : Ev (tFld K to f) σ H v := fun H1 e Q q => h H1 e _ fun H2 e2 => ⟨a, C, dx, fs, v, rfl, (e.trans e2) _ _ hx, c, hn, hl, q H2 e2⟩
theorem q_fld (c : Cls K C) (hn : NoAttr K C f) (hv : Ev tv σ H v) (h : Ev to σ H (.ref a)) (hx : H a = some (.ins C dx fs)) (hl : fs.length < 1000) (k : ∀ H1, Ex H H1 → tz D σ (upd H1 a (.ins C dx (putF f v fs)))) : tSeq (sFld K to tv f) tz D σ H :=
  hv H (Ex.refl H) _ fun H1 e1 => h H1 e1 _ fun H2 e2 => ⟨a, C, dx, fs, rfl, (e1.trans e2) _ _ hx, c, hn, hl, k H2 (e1.trans e2)⟩
theorem s_fld (c : Cls K C) (hn : NoAttr K C f) (hv : Ev tv σ H v) (h : Ev to σ H (.ref a)) (hx : H a = some (.ins C dx fs)) (hl : fs.length < 1000) (k : ∀ H1, Ex H H1 → D.nx σ (upd H1 a (.ins C dx (putF f v fs)))) : sFld K to tv f D σ H :=
  hv H (Ex.refl H) _ fun H1 e1 => h H1 e1 _ fun H2 e2 => ⟨a, C, dx, fs, rfl, (e1.trans e2) _ _ hx, c, hn, hl, k H2 (e1.trans e2)⟩
theorem q_fldL {xs : List V} (c : Cls K C) (hn : NoAttr K C f) (hv : EvL tv σ H xs) (h : ∀ H1, Ex H H1 → Ev to σ H1 (.ref a)) (hx : H a = some (.ins C dx fs)) (hl : fs.length < 1000) (k : ∀ p H1, H p = none → Ex H H1 → H1 p = some (.lst xs) → tz D σ (upd H1 a (.ins C dx (putF f (.ref p) fs)))) : tSeq (sFld K to tv f) tz D σ H :=
  hv H (Ex.refl H) _ fun p H1 hp e1 g1 => h H1 e1 H1 (Ex.refl H1) _ fun H2 e2 => ⟨a, C, dx, fs, rfl, (e1.trans e2) _ _ hx, c, hn, hl, k p H2 hp (e1.trans e2) (e2 _ _ g1)⟩
/-- o.m(..), whatever m promises -/
theorem mth (h : Ev to σ H (.ref a)) (hx : H a = some (.ins C dx fs)) (hm : fs.lookup m = none) (ha : EvA t σ H vs) {Q : VK} (k : ∀ H1, Ex H H1 → sp (.ref a :: (vs ++ dvs)) H1 Q E) : tMeth C m sp dvs E to t σ H Q :=
  h H (Ex.refl H) _ fun H1 e1 => ⟨a, dx, fs, rfl, e1 _ _ hx, hm, ha H1 e1 _ fun H2 e2 => k H2 (e1.trans e2)⟩
theorem q_dropM (h : Ev to σ H (.ref a)) (hx : H a = some (.ins C dx fs)) (hm : fs.lookup m = none) (ha : EvA t σ H vs) (k : ∀ H1, Ex H H1 → sp (.ref a :: (vs ++ dvs)) H1 (fun _ H2 => tz D σ H2) E) : tSeq (tDrop (tMeth C m sp dvs E to t)) tz D σ H := mth h hx hm ha k
theorem s_dropM (h : Ev to σ H (.ref a)) (hx : H a = some (.ins C dx fs)) (hm : fs.lookup m = none) (ha : EvA t σ H vs) (k : ∀ H1, Ex H H1 → sp (.ref a :: (vs ++ dvs)) H1 (fun _ H2 => D.nx σ H2) E) : tDrop (tMeth C m sp dvs E to t) D σ H := mth h hx hm ha k
theorem q_asgM {i : Nat} (h : Ev to σ H (.ref a)) (hx : H a = some (.ins C dx fs)) (hm : fs.lookup m = none) (ha : EvA t σ H vs) (k : ∀ H1, Ex H H1 → sp (.ref a :: (vs ++ dvs)) H1 (fun x H2 => tz D (σ.set i (some x)) H2) E) : tSeq (tAsg (tMeth C m sp dvs E to t) (gName i)) tz D σ H := mth h hx hm ha k
theorem s_retM (h : Ev to σ H (.ref a)) (hx : H a = some (.ins C dx fs)) (hm : fs.lookup m = none) (ha : EvA t σ H vs) (k : ∀ H1, Ex H H1 → sp (.ref a :: (vs ++ dvs)) H1 D.rt E) : tRet (tMeth C m sp dvs E to t) D σ H := mth h hx hm ha k
/-- a method that changes nothing and gives a value -/
theorem ev_mth (h : Ev to σ H (.ref a)) (hx : H a = some (.ins C dx fs)) (hm : fs.lookup m = none) (ha : EvA t σ H vs) (k : SpV sp (.ref a :: (vs ++ dvs)) H v) : Ev (tMeth C m sp dvs E to t) σ H v := fun H1 e Q q =>
  h H1 e _ fun H2 e2 => ⟨a, dx, fs, rfl, (e.trans e2) _ _ hx, hm, ha H2 (e.trans e2) _ fun H3 e3 => k H3 ((e.trans e2).trans e3) Q (fun H4 e4 => q H4 ((e2.trans e3).trans e4)) E⟩
end
theorem fresh_ne {H : Hp} {p q : Addr} {o : HO} (hp : H p = none) (hq : H q = some o) : q ≠ p := ne_of_none hq hp
theorem bitNot_eq (x : Int) : Builtin.bitNot x = -x - 1 := rfl
theorem bitAnd_maskZ (x : Int) (k : Nat) : Builtin.bitAnd x (2 ^ k - 1) = x % 2 ^ k := by
  by_cases h : 0 ≤ x
  · exact _root_.Bits.bitAnd_mask k h
  · have hp : (1 : Int) ≤ 2 ^ k := by
      have : 0 < 2 ^ k := Nat.two_pow_pos k
      have h2 : ((2 : Int) ^ k) = ((2 ^ k : Nat) : Int) := by rw [Int.natCast_pow]; rfl
      omega
    rw [PyProof.Rows.bitAnd_np h (by omega), Nat.and_comm]
    have h2 : ((2 : Int) ^ k) = ((2 ^ k : Nat) : Int) := by rw [Int.natCast_pow]; rfl
    have h3 : ((2 : Int) ^ k - 1).toNat = 2 ^ k - 1 := by omega
    rw [h3, Nat.and_two_pow_sub_one_eq_mod, bitNot_eq]
    have h4 : ((-x - 1).toNat : Int) = -x - 1 := by omega
    rw [h2, Int.natCast_emod, h4]
    generalize 2 ^ k = m at *
    have hm : (0 : Int) < (m : Int) := by omega
    have e1 := Int.emod_add_mul_ediv x m
    have e2 := Int.emod_add_mul_ediv (-x - 1) m
    have a1 := Int.emod_nonneg x (by omega : (m : Int) ≠ 0)
    have a2 := Int.emod_lt_of_pos x hm
    have b1 := Int.emod_nonneg (-x - 1) (by omega : (m : Int) ≠ 0)
    have b2 := Int.emod_lt_of_pos (-x - 1) hm
    generalize x % (m : Int) = r at *
    generalize (-x - 1) % (m : Int) = s at *
    generalize x / (m : Int) = p at *
    generalize (-x - 1) / (m : Int) = q at *
    -- r + s + 1 is a multiple of m between 1 and 2m - 1
    have e3 : r + s + 1 = m * (-(p + q)) := by
      rw [Int.mul_neg, Int.mul_add]
      omega
    have h5 : -(p + q) = 1 := by
      have c1 : 0 < (m : Int) * (-(p + q)) := by omega
      have c2 : (m : Int) * (-(p + q)) < m * 2 := by omega
      have c3 := Int.pos_of_mul_pos_right (a := (m : Int)) (b := -(p + q)) (by exact c1) hm
      have c4 : -(p + q) < 2 := Int.lt_of_mul_lt_mul_left c2 (by omega)
      omega
    rw [h5, Int.mul_one] at e3
    omega
theorem q_fldaugI {K : PySem.W.Frag} {σ : L2.St} {H : Hp} {to tv : TE} {a C dx : Addr} {fs : List (Str × V)} {f : Str} {i j : Int} {D : Ends} {tz : TS} (c : Cls K C) (hn : NoAttr K C f) (h : Ev to σ H (.ref a)) (hx : H a = some (.ins C dx fs)) (hl : fs.lookup f = some (.int i)) (hv : Ev tv σ H (.int j)) (hz : fs.length < 1000)
    (k : ∀ H1, Ex H H1 → tz D σ (upd H1 a (.ins C dx (putF f (.int (i + j)) fs)))) : tSeq (sFldAug K to tv rAdd f) tz D σ H :=
  h H (Ex.refl H) _ fun H1 e1 => ⟨a, C, dx, fs, .int i, rfl, e1 _ _ hx, c, hn, hl, hv H1 e1 _ fun H2 e2 => ⟨i, j, rfl, rfl, dx, fs, (e1.trans e2) _ _ hx, hz, k H2 (e1.trans e2)⟩⟩
/-- [e for j in range(n)] whose element changes objects -/
theorem tlc_rngM {ta : TA} {te : TE} {vs : List Nat} {n : Int} {j : Nat} {σ : L2.St} {H : Hp} {Q : VK} (h : EvA ta σ H [.int n]) (hn : -100000 ≤ n ∧ n ≤ 100000)
    (k : ∀ H1, Ex H H1 → ∀ Dl, H1 Dl = none → ∃ Pv : Nat → Hp → Prop, Pv 0 (upd H1 Dl (.lst [])) ∧ (∀ (i : Nat) H', i < n.toNat → Pv i H' → wipe ((wipe σ vs).set j (some (.int (i : Int)))) vs = wipe σ vs ∧ te ((wipe σ vs).set j (some (.int (i : Int)))) H' fun y H4 => ∃ acc, H4 Dl = some (.lst acc) ∧ acc.length < sizeLine ∧ Pv (i + 1) (upd H4 Dl (.lst (acc ++ [y])))) ∧ (∀ H', Pv n.toNat H' → Q (.ref Dl) H')) :
    tLc (iRng1 ta) (gName j) tYes te vs σ H Q := h H (Ex.refl H) _ fun H1 e1 => ⟨n, rfl, by omega, by omega, fun Dl hD => by
  obtain ⟨Pv, h0, hs, hd⟩ := k H1 e1 Dl hD
  refine lc_range (lo := 0) (n := n.toNat) Pv h0 (fun i H' hi p => ?_) hd
  rw [Int.zero_add]
  exact hs i H' hi p⟩

theorem rs4 (n : Nat) : Builtin.Range.rangeSize 0 ((4 * n : Nat) : Int) 4 = (n : Int) := by
  unfold Builtin.Range.rangeSize
  rw [if_pos (by decide)]
  split <;> omega
theorem rg4 {n : Nat} (h : n ≤ 10000) : RgC 0 ((4 * n : Nat) : Int) 4 n := by
  refine ⟨by decide, by decide, ?_, rs4 n⟩
  unfold Builtin.Range.small
  rw [rs4]
  have f : ∀ x : Int, 0 ≤ x → x ≤ 1000000 → Builtin.Range.rangeFitsLong x = true := fun x h1 h2 => by
    unfold Builtin.Range.rangeFitsLong
    rw [Bool.and_eq_true]
    exact ⟨decide_eq_true (by omega), decide_eq_true (by omega)⟩
  rw [f 0 (by decide) (by decide), f _ (by omega) (by omega), f 4 (by decide) (by decide), f (n : Int) (by omega) (by omega), if_pos (by decide), f _ (by omega) (by omega), Bool.or_true]
  rfl
theorem rs8 (n : Nat) : Builtin.Range.rangeSize 0 ((8 * n : Nat) : Int) 8 = (n : Int) := by
  unfold Builtin.Range.rangeSize
  rw [if_pos (by decide)]
  split <;> omega
theorem rg8 {n : Nat} (h : n ≤ 10000) : RgC 0 ((8 * n : Nat) : Int) 8 n := by
  refine ⟨by decide, by decide, ?_, rs8 n⟩
  unfold Builtin.Range.small
  rw [rs8]
  have f : ∀ x : Int, 0 ≤ x → x ≤ 1000000 → Builtin.Range.rangeFitsLong x = true := fun x h1 h2 => by
    unfold Builtin.Range.rangeFitsLong
    rw [Bool.and_eq_true]
    exact ⟨decide_eq_true (by omega), decide_eq_true (by omega)⟩
  rw [f 0 (by decide) (by decide), f _ (by omega) (by omega), f 8 (by decide) (by decide), f (n : Int) (by omega) (by omega), if_pos (by decide), f _ (by omega) (by omega), Bool.or_true]
  rfl
theorem rs64 (n : Nat) : Builtin.Range.rangeSize 0 ((64 * n : Nat) : Int) 64 = (n : Int) := by
  unfold Builtin.Range.rangeSize
  rw [if_pos (by decide)]
  split <;> omega
theorem rg64 {n : Nat} (h : n ≤ 10000) : RgC 0 ((64 * n : Nat) : Int) 64 n := by
  refine ⟨by decide, by decide, ?_, rs64 n⟩
  unfold Builtin.Range.small
  rw [rs64]
  have f : ∀ x : Int, 0 ≤ x → x ≤ 1000000 → Builtin.Range.rangeFitsLong x = true := fun x h1 h2 => by
    unfold Builtin.Range.rangeFitsLong
    rw [Bool.and_eq_true]
    exact ⟨decide_eq_true (by omega), decide_eq_true (by omega)⟩
  rw [f 0 (by decide) (by decide), f _ (by omega) (by omega), f 64 (by decide) (by decide), f (n : Int) (by omega) (by omega), if_pos (by decide), f _ (by omega) (by omega), Bool.or_true]
  rfl
theorem q_forRC {σ : L2.St} {H : Hp} {D : Ends} {tu tz : TS} {ta : TA} {j n : Nat} {a b c : Int} (h : EvA ta σ H [.int a, .int b, .int c]) (hr : RgC a b c n) (Pv : Nat → L2.St → Hp → Prop) (h0 : ∀ H1, Ex H H1 → Pv 0 σ H1)
    (hs : ∀ i σ' H', i < n → Pv i σ' H' → tu { nx := Pv (i + 1), rt := D.rt, bk := tz D, ct := Pv (i + 1) } (σ'.set j (some (.int (a + (i : Nat) * c)))) H') (hd : ∀ σ' H', Pv n σ' H' → tz D σ' H') : tSeq (tFor (iRng3 ta) (gName j) tu) tz D σ H :=
  h H (Ex.refl H) _ fun H1 e1 => ⟨a, b, c, n, rfl, hr, for_rangeC Pv (h0 H1 e1) hs hd⟩
/-- a tuple that is read -/
def EvP (K : PySem.W.Frag) (te : TE) (σ : L2.St) (H : Hp) (xs : List V) : Prop := ∀ H1, Ex H H1 → ∀ Q : VK, (∀ p H2, Ex H1 H2 → SqT K H2 p xs → Q (.ref p) H2) → te σ H1 Q
theorem Ev.p {te : TE} {σ : L2.St} {H : Hp} {a : Addr} {xs : List V} (h : Ev te σ H (.ref a)) (hx : SqT K H a xs) : EvP K te σ H xs := fun H1 e Q q => h H1 e Q fun H2 e2 => q a H2 e2 (ex_t e2 (ex_t e hx))
theorem EvU.p {te : TE} {σ : L2.St} {H : Hp} {xs : List V} (h : EvU te σ H xs) : EvP K te σ H xs := fun H1 e Q q => h H1 e Q fun p H2 _ e2 g => q p H2 e2 (st_of g)
theorem eu_tupOf {te : TE} {σ : L2.St} {H : Hp} {xs : List V} (h : EvS K te σ H xs) : EvU (tCB (fun xs H Q => ∃ p ys, xs = [.ref p] ∧ ((SqL K H p ys ∧ ∀ l, H l = none → Q (.ref l) (upd H l (.tup ys))) ∨ (SqT K H p ys ∧ Q (.ref p) H))) (tCons te tNil)) σ H xs := fun H1 e Q q =>
  h H1 e _ fun p H2 e2 hp => ⟨p, xs, rfl, .inl ⟨hp, fun l hl => q l _ (by cases hh : H1 l with | none => rfl | some o => rw [e2 _ _ hh] at hl; cases hl) (e2.trans (Ex.new hl)) upd_same⟩⟩
theorem el_lcC {σ : L2.St} {H : Hp} {ta : TA} {te : TE} {vs : List Nat} {j n : Nat} {a b c : Int} (zs : List V) (h1 : EvA ta σ H [.int a, .int b, .int c]) (hr : RgC a b c n) (hz : zs.length = n) (hb : zs.length ≤ 50000) (hw : ∀ x, wipe ((wipe σ vs).set j (some x)) vs = wipe σ vs)
    (he : ∀ (i : Nat) H1, Ex H H1 → i < n → ∃ z, zs[i]? = some z ∧ Ev te ((wipe σ vs).set j (some (.int (a + (i : Nat) * c)))) H1 z) : EvL (tLc (iRng3 ta) (gName j) tYes te vs) σ H zs := fun H0 e Q q =>
  h1 H0 e _ fun H1 e1 => ⟨a, b, c, n, rfl, hr, fun D hD => lc_it walk_rangeC (fun i H' => Ex H1 H' ∧ H' D = some (.lst (zs.take i))) ⟨Ex.new hD, upd_same⟩ (fun _ _ _ _ => trivial) (by
    rintro i x H' H'' hi ⟨ex, hd⟩ ⟨rfl, rfl⟩
    obtain ⟨z, hz1, hz2⟩ := he i H'' ((e.trans e1).trans ex) hi
    refine ⟨hw _, ?_⟩
    refine hz2 _ (Ex.refl _) _ fun H4 e4 => ⟨zs.take i, e4 _ _ hd, sz_lt (by rw [List.length_take]; omega), ?_, ?_⟩
    · exact Ex.mut (ex.trans e4) hD
    · rw [upd_same, take_snoc hz1]) fun H' ⟨ex, hd⟩ => by
      rw [← hz, List.take_length] at hd
      exact q D H' (fresh_back e1 hD) (e1.trans ex) hd⟩
/-- over zip of two tuples -/
theorem el_lcZT {σ : L2.St} {H : Hp} {t1 t2 te : TE} {xs ys : List V} {vs : List Nat} {j1 j2 : Nat} (zs : List V) (h1 : EvP K t1 σ H xs) (h2 : EvP K t2 σ H ys) (hz : zs.length = min xs.length ys.length) (hb : zs.length ≤ 50000)
    (hw : ∀ x y, wipe (((wipe σ vs).set j1 (some x)).set j2 (some y)) vs = wipe σ vs)
    (he : ∀ (i : Nat) (x y : V) H1, Ex H H1 → xs[i]? = some x → ys[i]? = some y → ∃ z, zs[i]? = some z ∧ Ev te (((wipe σ vs).set j1 (some x)).set j2 (some y)) H1 z) :
    EvL (tLc (RZ.iZipA K (tCons t1 (tCons t2 tNil))) (gTup K 2 (gCons (gName j1) (gCons (gName j2) gNil))) tYes te vs) σ H zs := fun H0 e Q q =>
  h1 H0 e _ fun p H1 e1 hp => h2 H1 (e.trans e1) _ fun r H2 e2 hr => ⟨p, r, xs, ys, rfl, .inr ⟨ex_t e2 hp, hr, fun D hD =>
    ⟨fun i m H' => m = zs.length - i ∧ i ≤ zs.length ∧ Ex H2 H' ∧ H' D = some (.lst (zs.take i)), ⟨zs.length, rfl, Nat.zero_le _, Ex.new hD, upd_same⟩, by
      rintro i m H' ⟨rfl, hi, ex, hd⟩
      have qx : SqT K H' p xs := ex_t (e2.trans ex) hp
      have qy : SqT K H' r ys := ex_t ex hr
      by_cases hlt : i < zs.length
      · have hx : xs[i]? = some xs[i] := List.getElem?_eq_getElem (by omega)
        have hy : ys[i]? = some ys[i] := List.getElem?_eq_getElem (by omega)
        refine .inr ⟨⟨xs, ys, _, _, qx, qy, hx, hy⟩, fun H3 => i + 1 ≤ zs.length ∧ Ex H2 H3 ∧ H3 D = some (.lst (zs.take (i + 1))), fun H3 h3 => ⟨zs.length - (i + 1), by omega, rfl, h3⟩, fun v H3 hv => ?_⟩
        obtain ⟨T, x, y, rfl, hT, rfl, f1, f2⟩ := hv
        have ex3 : Ex H' (upd H' T (.tup [x, y])) := Ex.new hT
        obtain ⟨z, hz1, hz2⟩ := he i x y (upd H' T (.tup [x, y])) ((((e.trans e1).trans e2).trans ex).trans ex3) (f1 _ qx) (f2 _ qy)
        refine ⟨T, [x, y], rfl, st_of upd_same, rfl, x, [y], rfl, y, [], rfl, rfl, hw x y, ?_⟩
        refine hz2 _ (Ex.refl _) _ fun H4 e4 => ⟨zs.take i, e4 _ _ (ex3 _ _ hd), sz_lt (by rw [List.length_take]; omega), hlt, ?_, ?_⟩
        · exact Ex.mut ((ex.trans ex3).trans e4) hD
        · rw [upd_same, take_snoc hz1]
      · have ei : i = zs.length := by omega
        refine .inl ⟨⟨xs, ys, qx, qy, by omega⟩, ?_⟩
        rw [ei, List.take_length] at hd
        exact q D H' (fresh_back (e1.trans e2) hD) ((e1.trans e2).trans ex) hd⟩⟩⟩
theorem take_snocI {zs : List Int} {i : Nat} {z : Int} (h : zs[i]? = some z) : zs.take (i + 1) = zs.take i ++ [z] := by
  rw [List.take_add_one, h]
  rfl
theorem fresh_ne' {H : Hp} {p q : Addr} {o : HO} (hp : H p = none) (hq : H q = some o) : q ≠ p := ne_of_none hq hp
/-- [b for w in tuple for b in f(w)] -/
theorem el_lc2 {σ : L2.St} {H : Hp} {t1 t2 te : TE} {i0 i1 : Nat} {vs vs1 : List Nat} (ws : List Int) (f : Int → List Int) (h1 : EvP K t1 σ H (ws.map V.int)) (hw : ∀ x, wipe ((wipe σ vs).set i0 (some x)) vs = wipe σ vs)
    (hw1 : ∀ x y, wipe ((wipe ((wipe σ vs).set i0 (some x)) vs1).set i1 (some y)) vs1 = wipe ((wipe σ vs).set i0 (some x)) vs1) (hv : ∀ x y H1, Ev te ((wipe ((wipe σ vs).set i0 (some x)) vs1).set i1 (some y)) H1 y)
    (h2 : ∀ w H1, Ex H H1 → w ∈ ws → EvL t2 ((wipe σ vs).set i0 (some (.int w))) H1 ((f w).map V.int)) (hb : (ws.flatMap f).length ≤ 50000) :
    EvL (tLc2 (iTup K t1) (gName i0) tYes (iList K t2) (gName i1) tYes te vs vs1) σ H ((ws.flatMap f).map V.int) := fun H0 e Q q =>
  h1 H0 e _ fun p H1 e1 hp => ⟨p, rfl, ⟨_, hp⟩, fun D hD =>
    ⟨fun i m H' => m = ws.length - i ∧ i ≤ ws.length ∧ Ex H1 H' ∧ H' D = some (.lst (((ws.take i).flatMap f).map V.int)), ⟨ws.length, rfl, Nat.zero_le _, Ex.new hD, upd_same⟩, by
      rintro i m H' ⟨rfl, hi, ex, hd⟩
      have qx : SqT K H' p (ws.map V.int) := ex_t ex hp
      by_cases hlt : i < ws.length
      · have hx : ws[i]? = some ws[i] := List.getElem?_eq_getElem hlt
        have htk : (ws.take (i + 1)).flatMap f = (ws.take i).flatMap f ++ f ws[i] := by
          rw [List.take_add_one, hx]
          show ((ws.take i) ++ [ws[i]]).flatMap f = _
          rw [List.flatMap_append, List.flatMap_cons, List.flatMap_nil, List.append_nil]
        have hmem : ws[i] ∈ ws := List.getElem_mem hlt
        have hsplit : ws.flatMap f = (ws.take i).flatMap f ++ (f ws[i] ++ (ws.drop (i + 1)).flatMap f) := by
          rw [← List.append_assoc, ← htk, ← List.flatMap_append, List.take_append_drop]
        have hlen := congrArg List.length hsplit
        rw [List.length_append, List.length_append] at hlen
        refine .inr ⟨⟨_, _, qx, at_int hx⟩, fun H3 => Ex H1 H3 ∧ H3 D = some (.lst (((ws.take (i + 1)).flatMap f).map V.int)), fun H3 h3 => ⟨ws.length - (i + 1), by omega, rfl, hlt, h3⟩, fun v H3 hv1 => ?_⟩
        obtain ⟨rfl, hv1⟩ := hv1
        have hv1 := hv1 _ qx
        rw [at_int hx] at hv1
        cases hv1
        generalize ws[i] = w0 at *
        refine ⟨hw _, ?_⟩
        refine h2 w0 H3 ((e.trans e1).trans ex) hmem H3 (Ex.refl _) _ fun r H4 hrn e4 hr => ⟨r, rfl, ⟨_, sq_of hr⟩, fun j k H' => k = (f w0).length - j ∧ j ≤ (f w0).length ∧ Ex H1 H' ∧ H' r = some (.lst ((f w0).map V.int)) ∧ H' D = some (.lst (((ws.take i).flatMap f ++ (f w0).take j).map V.int)), ⟨(f w0).length, rfl, Nat.zero_le _, ex.trans e4, hr, by rw [List.take_zero, List.append_nil]; exact e4 _ _ hd⟩, ?_⟩
        have hrD : r ≠ D := (fresh_ne' hrn hd).symm
        rintro j k H' ⟨rfl, hj, ex4, hr4, hd4⟩
        by_cases hjl : j < (f w0).length
        · have hy : (f w0)[j]? = some (f w0)[j] := List.getElem?_eq_getElem hjl
          refine .inr ⟨⟨_, _, sq_of hr4, at_int hy⟩, fun H5 => Ex H1 H5 ∧ H5 r = some (.lst ((f w0).map V.int)) ∧ H5 D = some (.lst (((ws.take i).flatMap f ++ (f w0).take (j + 1)).map V.int)), fun H5 h5 => ⟨(f w0).length - (j + 1), by omega, rfl, hjl, h5⟩, fun v H5 hv5 => ?_⟩
          obtain ⟨rfl, hv5⟩ := hv5
          have hv5 := hv5 _ (sq_of hr4)
          rw [at_int hy] at hv5
          cases hv5
          refine ⟨hw1 _ _, ?_⟩
          have he := hv (.int w0) (.int (f w0)[j]) H5
          refine he H5 (Ex.refl _) _ fun H6 e6 => ⟨_, e6 _ _ hd4, sz_lt (by rw [List.length_map, List.length_append, List.length_take]; omega), Ex.mut (ex4.trans e6) hD, ?_, ?_⟩
          · rw [upd_ne hrD]
            exact e6 _ _ hr4
          · rw [upd_same, take_snocI hy, ← List.append_assoc]
            exact congrArg (fun z => some (HO.lst z)) (List.map_append (f := V.int) (l₁ := (ws.take i).flatMap f ++ (f w0).take j) (l₂ := [(f w0)[j]])).symm
        · have ej : j = (f w0).length := by omega
          rw [ej, List.take_length, ← htk] at hd4
          exact .inl ⟨⟨_, sq_of hr4, by rw [List.length_map]; omega⟩, ex4, hd4⟩
      · have ei : i = ws.length := by omega
        refine .inl ⟨⟨_, qx, by rw [List.length_map]; omega⟩, ?_⟩
        rw [ei, List.take_length] at hd
        exact q D H' (fresh_back e1 hD) (e1.trans ex) hd⟩⟩

theorem s_ext {σ : L2.St} {H : Hp} {ta te : TE} {D : Ends} {l : Addr} {xs zs : List V} (hl : H l = some (.lst xs)) (ha : Ev ta σ H (.ref l)) (he : EvR te σ H zs) (hs : xs.length + zs.length ≤ 100000) (k : ∀ H1, Ex H H1 → D.nx σ (upd H1 l (.lst (xs ++ zs)))) : tDrop (tBM K "list" rExtend ta (tCons te tNil)) D σ H :=
  ha H (Ex.refl H) _ fun H1 e1 => ⟨.inl ⟨rfl, _, sq_of (e1 _ _ hl)⟩, he H1 e1 _ fun b H2 e2 g2 => ⟨l, b, xs, zs, rfl, rfl, (e1.trans e2) _ _ hl, g2, sz_of hs, k H2 (e1.trans e2)⟩⟩
theorem q_ext {σ : L2.St} {H : Hp} {ta te : TE} {D : Ends} {tz : TS} {l : Addr} {xs zs : List V} (hl : H l = some (.lst xs)) (ha : Ev ta σ H (.ref l)) (he : EvR te σ H zs) (hs : xs.length + zs.length ≤ 100000) (k : ∀ H1, Ex H H1 → tz D σ (upd H1 l (.lst (xs ++ zs)))) : tSeq (tDrop (tBM K "list" rExtend ta (tCons te tNil))) tz D σ H := s_ext (D := { D with nx := tz D }) hl ha he hs k

namespace SH
theorem log_pow (j : Nat) (h : j ≤ 1000) : (2 ^ j : Nat).log2 < 9000 := by rw [Nat.log2_two_pow]; omega
theorem cdivw (v : Int) (j : Nat) (h : j ≤ 1000) : CDivW v (1 * 2 ^ (j : Int).toNat) := by
  have e : (1 : Int) * 2 ^ (j : Int).toNat = ((2 ^ j : Nat) : Int) := by rw [Int.toNat_natCast, Int.one_mul]; exact (Int.natCast_pow 2 j).symm
  rw [e]
  refine ⟨?_, ?_⟩
  · have := Nat.two_pow_pos j
    omega
  · rw [Int.natAbs_natCast]
    exact log_pow j h
theorem ev_shl1 {σ : L2.St} {H : Hp} {t2 : TE} {j : Nat} (h2 : Ev t2 σ H (.int (j : Int))) (hj : j ≤ 1000) : Ev (tOp (rI CPow fun i j => .int (i * 2 ^ j.toNat)) (tC (.int 1)) t2) σ H (.int (1 * 2 ^ (j : Int).toNat)) := ev_I ev_c h2 (show CPow 1 (j : Int) from ⟨by omega, by omega, by decide⟩)
theorem ev_divp {σ : L2.St} {H : Hp} {t1 t2 : TE} {v : Int} {j : Nat} (h1 : Ev t1 σ H (.int v)) (h2 : Ev t2 σ H (.int (j : Int))) (hj : j ≤ 1000) : Ev (tOp (rI CDivW fun i j => .int (i / j)) t1 (tOp (rI CPow fun i j => .int (i * 2 ^ j.toNat)) (tC (.int 1)) t2)) σ H (.int (v / 2 ^ j)) :=
  Ev.is (ev_I h1 (ev_shl1 h2 (by omega)) (cdivw v j hj)) (by rw [Int.toNat_natCast, Int.one_mul])
end SH

def sp_isint : Sp := fun vs H Q _ => ∃ n : Int, vs = [.int n] ∧ RetV (.bl true) H Q
theorem ok_law_is_integer (T : TX K mg) : FnOk P w K mg base CX0 1 T.a_law_is_integer T.d_law_is_integer ["actual"] sp_isint := by
  refine T.F_law_is_integer.ok sc_law_is_integer (fun vs H Q E h => by obtain ⟨n, rfl, _⟩ := h; rfl) (fun cdv A outer s H vs Q E hr h => ?_)
  obtain ⟨n, rfl, k⟩ := h
  refine ⟨_, (pss_one (ps_ret (pe_and (pe_callB (r := rIsi K) call_isi (by rfl) T.m_isinstance PyProof.Rows.boot_isinstance (pa_cons (pv 0) (pa_cons (pe_bltn (v := V.ty "int") (by rfl) T.m_int PyProof.Rows.boot_int rfl) pa_nil))) (pe_one (pe_not (pe_callB (r := rIsi K) call_isi (by rfl) T.m_isinstance PyProof.Rows.boot_isinstance (pa_cons (pv 0) (pa_cons (pe_bltn (v := V.ty "bool") (by rfl) T.m_bool PyProof.Rows.boot_bool rfl) pa_nil)))))))), ?_⟩
  walk_at "ret"
  intro H2 e2
  exact ret_eq k e2 rfl
theorem ev_isint {σ : L2.St} {H : Hp} {te : TE} {E : XK} {n : Int} (h : Ev te σ H (.int n)) : Ev (tCall sp_isint [] E (tCons te tNil)) σ H (.bl true) := ev_call (ea_cons h ea_nil) fun H1 _ Q q _ => ⟨n, rfl, q⟩

def sp_same : Sp := fun vs H Q _ => ∃ (a b : Addr) (ns : List Int), vs = [.ref a, .ref b] ∧ H a = some (.lst (ns.map V.int)) ∧ H b = some (.lst (ns.map V.int)) ∧ ns.length ≤ 100000 ∧ RetV (.bl true) H Q
theorem ok_law_same (T : TX K mg) : FnOk P w K mg base CX0 2 T.a_law_same T.d_law_same ["actual", "expected"] sp_same := by
  refine T.F_law_same.ok sc_law_same (fun vs H Q E h => by obtain ⟨a, b, ns, rfl, _⟩ := h; rfl) (fun cdv A outer s H vs Q E hr h => ?_)
  obtain ⟨a, b, ns, rfl, ha, hb, hlen, k⟩ := h
  refine ⟨_, (pss_cons (ps_if (PW.pt (pw_or (pt_not (pt_val (pe_callB (r := rIsi K) call_isi (by rfl) T.m_isinstance PyProof.Rows.boot_isinstance (pa_cons (pv 0) (pa_cons (pe_bltn (v := V.ty "list") (by rfl) T.m_list PyProof.Rows.boot_list rfl) pa_nil))))) (pw_or1 (pt_cmpR op_ne (pe_callB (r := rLenS K) call_len_seq (by rfl) T.m_len PySem.boot_len (pa_cons (pv 0) pa_nil)) (pe_callB (r := rLenS K) call_len_seq (by rfl) T.m_len PySem.boot_len (pa_cons (pv 1) pa_nil)) (nomark _))))) (pss_one (ps_ret pe_bl)) pss_nil)
      (pss_cons (ps_for PassesOwn.never rfl (pi_range1 (by rfl) T.m_range (pa_cons (pe_callB (r := rLenS K) call_len_seq (by rfl) T.m_len PySem.boot_len (pa_cons (pv 1) pa_nil)) pa_nil)) (pg_name (i := 2) sc_law_same.nd rfl (Or.inl rfl)) (pss_one (ps_if (PW.pt (pw_or (pt_not (pt_val (pe_call (ok_law_is_integer T) (hr.mono (by decide)) (by rfl) T.g_law_is_integer T.F_law_is_integer.kp T.b_law_is_integer .nil pass0 (pa_cons (pe_ix (r := rIxL K) ix_list (pv 0) (pv 2) (fun _ _ => rfl)) pa_nil)))) (pw_or1 (pt_cmpR op_ne (pe_ix (r := rIxL K) ix_list (pv 0) (pv 2) (fun _ _ => rfl)) (pe_ix (r := rIxL K) ix_list (pv 1) (pv 2) (fun _ _ => rfl)) (nomark _))))) (pss_one (ps_ret pe_bl)) pss_nil)))
      (pss_one (ps_ret pe_bl)))), ?_⟩
  have hl : ∀ {σ : L2.St} {H1 : Hp} {te : TE} {c : Addr}, Ev te σ H1 (.ref c) → H1 c = some (.lst (ns.map V.int)) → Ev (tCB (rLenS K) (tCons te tNil)) σ H1 (.int (ns.length : Int)) := fun h1 h2 => Ev.is (ev_lenS (Ev.s h1 (sq_of h2))) (by rw [List.length_map])
  refine q_when (b := false) (et_or (a := !true) (b := false) (et_not (et_test (ev_isiL (ev_var rfl) ha))) fun _ => et_test (Ev.is (ev_ne (hl (ev_var rfl) ha) (hl (ev_var rfl) hb) rfl) (by rw [decide_eq_true rfl]; rfl))) (fun hb => by cases hb) fun _ H1 e1 => ?_
  refine q_forR1 (n := (ns.length : Int)) (ea_cons (hl (ev_var rfl) (e1 _ _ hb)) ea_nil) (by omega) (fun i σ' H' => ∃ z, σ' = [some (.ref a), some (.ref b), z] ∧ Ex H H') (fun H2 e2 => ⟨none, rfl, e1.trans e2⟩) ?_ ?_
  · rintro i σ' H' hi ⟨z, rfl, ex⟩
    have hi : i < ns.length := by omega
    have hat : ∀ {σ : L2.St} {H1 : Hp} {tl ti : TE} {c : Addr}, Ev tl σ H1 (.ref c) → H1 c = some (.lst (ns.map V.int)) → Ev ti σ H1 (.int (i : Int)) → Ev (tOp (rIxL K) tl ti) σ H1 (.int (ns.getD i 0)) := fun h1 h2 h3 => ev_at (Ev.s h1 (sq_of h2)) h3 (at_of rfl (at_int (gl_get hi)))
    refine s_when (b := false) (et_or (a := !true) (b := false) (et_not (et_B (ev_isint (hat (ev_var rfl) (ex _ _ ha) (ev_var rfl))))) fun _ => et_test (Ev.is (ev_ne (hat (ev_var rfl) (ex _ _ ha) (ev_var rfl)) (hat (ev_var rfl) (ex _ _ hb) (ev_var rfl)) rfl) (by rw [decide_eq_true rfl]; rfl))) (fun hb => by cases hb) fun _ H2 e2 => ?_
    exact ⟨_, rfl, ex.trans e2⟩
  · rintro σ' H' ⟨z, rfl, ex⟩
    walk_at "ret"
    intro H2 e2
    exact k _ (ex.trans e2)

theorem ev_same {σ : L2.St} {H : Hp} {t1 t2 : TE} {E : XK} {ns : List Int} (h1 : EvR t1 σ H (ns.map V.int)) (h2 : EvR t2 σ H (ns.map V.int)) (hl : ns.length ≤ 100000) : Ev (tCall sp_same [] E (tCons t1 (tCons t2 tNil))) σ H (.bl true) := fun H1 e Q q =>
  h1 H1 e _ fun p H2 e2 g2 => h2 H2 (e.trans e2) _ fun r H3 e3 g3 => ⟨p, r, ns, rfl, e3 _ _ g2, g3, hl, fun H4 e4 => q H4 ((e2.trans e3).trans e4)⟩

theorem ev_go {te : TE} {σ : L2.St} {H : Hp} {v : V} {Q : VK} (h : Ev te σ H v) (k : ∀ H2, Ex H H2 → Q v H2) : te σ H Q := h H (Ex.refl H) Q k
theorem et_go {t : TT} {σ : L2.St} {H : Hp} {b : Bool} {Q : Bool → Hp → Prop} (h : EvT t σ H b) (k : ∀ H2, Ex H H2 → Q b H2) : t σ H Q := h H (Ex.refl H) Q k
theorem el_go {te : TE} {σ : L2.St} {H : Hp} {xs : List V} {Q : VK} (h : EvL te σ H xs) (k : ∀ p H2, H p = none → Ex H H2 → H2 p = some (.lst xs) → Q (.ref p) H2) : te σ H Q := h H (Ex.refl H) Q k
theorem eu_go {te : TE} {σ : L2.St} {H : Hp} {xs : List V} {Q : VK} (h : EvU te σ H xs) (k : ∀ p H2, H p = none → Ex H H2 → H2 p = some (.tup xs) → Q (.ref p) H2) : te σ H Q := h H (Ex.refl H) Q k
theorem ea_go {t : TA} {σ : L2.St} {H : Hp} {vs : List V} {Q : List V → Hp → Prop} (h : EvA t σ H vs) (k : ∀ H2, Ex H H2 → Q vs H2) : t σ H Q := h H (Ex.refl H) Q k

theorem tlc_rngE {ta : TA} {te : TE} {vs : List Nat} {n : Int} {j : Nat} {σ : L2.St} {H : Hp} {Q : VK} (h : EvA ta σ H [.int n]) (hn : -100000 ≤ n ∧ n ≤ 100000)
    (k : ∀ H1, Ex H H1 → ∀ Dl, H1 Dl = none → ∃ Pv : Nat → Hp → Prop, Pv 0 (upd H1 Dl (.lst [])) ∧ (∀ (i : Nat) H', i < n.toNat → Pv i H' → wipe ((wipe σ vs).set j (some (.int (i : Int)))) vs = wipe σ vs ∧ te ((wipe σ vs).set j (some (.int (i : Int)))) H' fun y H4 => ∃ acc, H4 Dl = some (.lst acc) ∧ acc.length < sizeLine ∧ Pv (i + 1) (upd H4 Dl (.lst (acc ++ [y])))) ∧ (∀ H', Pv n.toNat H' → Q (.ref Dl) H')) :
    tLc (iRng1 ta) (gName j) tYes te vs σ H Q := h H (Ex.refl H) _ fun H1 e1 => ⟨n, rfl, by omega, by omega, fun Dl hD => by
  obtain ⟨Pv, h0, hs, hd⟩ := k H1 e1 Dl hD
  refine lc_range (lo := 0) (n := n.toNat) Pv h0 (fun i H' hi p => ?_) hd
  rw [Int.zero_add]
  exact hs i H' hi p⟩
theorem tlc_lstM {t1 te : TE} {vs : List Nat} {xs : List V} {j : Nat} {σ : L2.St} {H : Hp} {Q : VK} (h : EvS K t1 σ H xs)
    (k : ∀ p H1, Ex H H1 → SqL K H1 p xs → ∀ Dl, H1 Dl = none → ∃ Pv : Nat → Hp → Prop, Pv 0 (upd H1 Dl (.lst [])) ∧ (∀ (i : Nat) H', Pv i H' → SqL K H' p xs) ∧ (∀ (i : Nat) (x : V) H', xs[i]? = some x → Pv i H' → wipe ((wipe σ vs).set j (some x)) vs = wipe σ vs ∧ te ((wipe σ vs).set j (some x)) H' fun y H4 => ∃ acc, H4 Dl = some (.lst acc) ∧ acc.length < sizeLine ∧ Pv (i + 1) (upd H4 Dl (.lst (acc ++ [y])))) ∧ (∀ H', Pv xs.length H' → Q (.ref Dl) H')) :
    tLc (iList K t1) (gName j) tYes te vs σ H Q := h H (Ex.refl H) _ fun p H1 e1 hp => ⟨p, rfl, ⟨xs, hp⟩, fun Dl hD => by
  obtain ⟨Pv, h0, hl, hs, hd⟩ := k p H1 e1 hp Dl hD
  exact lc_list (xs := xs) Pv h0 (fun i H' _ p => hl i H' p) (fun i x H' hi p => hs i x H' hi p) hd⟩

/-! ### a loop over zip(*xs), xs a list of lists of one length -/
theorem for_zipN {as : List Addr} {rs : List (List V)} {n : Nat} {g : TG} {tb : TS} {D : Ends} {σ : L2.St} {H : Hp} (hlen : ∀ r ∈ rs, r.length = n) (hal : as.length = rs.length) (hne : as ≠ []) (hsz : as.length ≤ sizeLine) (Pv : Nat → L2.St → Hp → Prop) (h0 : Pv 0 σ H)
    (hq : ∀ i σ H, i ≤ n → Pv i σ H → ∀ (j : Nat) (a : Addr) (r : List V), as[j]? = some a → rs[j]? = some r → SqL K H a r)
    (hs : ∀ (i : Nat) (vs : List V) (T : Addr) (σ : L2.St) (H : Hp), i < n → vs.length = as.length → (∀ (j : Nat) (r : List V), rs[j]? = some r → r[i]? = vs[j]?) → Pv i σ H → H T = none → g (.ref T) σ (upd H T (.tup vs)) fun σ2 H2 => tb { D with nx := Pv (i + 1), ct := Pv (i + 1), bk := D.nx } σ2 H2) (hd : ∀ σ H, Pv n σ H → D.nx σ H) :
    ∃ W : Nat → Nat → L2.St → Hp → Prop, (∃ m, W 0 m σ H) ∧ ∀ i m σ H, W i m σ H →
      ((ZN.ItzN K as).stop i H ∧ D.nx σ H) ∨ ((ZN.ItzN K as).go i H ∧ ∃ N : L2.St → Hp → Prop, (∀ σ' H', N σ' H' → ∃ m', m' < m ∧ W (i + 1) m' σ' H') ∧ ∀ v H', (ZN.ItzN K as).yld i H v H' → g v σ H' fun σ2 H2 => tb { D with nx := N, ct := N, bk := D.nx } σ2 H2) := by
  have hr : ∀ (j : Nat) (a : Addr), as[j]? = some a → ∃ r, rs[j]? = some r ∧ r.length = n := fun j a h => by
    have hj := (List.getElem?_eq_some_iff.mp h).1
    have hr : rs[j]? = some (rs[j]'(by omega)) := List.getElem?_eq_getElem _
    exact ⟨_, hr, hlen _ (List.mem_of_getElem? hr)⟩
  have ha : ∀ (j : Nat) (r : List V), rs[j]? = some r → ∃ a, as[j]? = some a := fun j r h => by
    have hj := (List.getElem?_eq_some_iff.mp h).1
    exact ⟨as[j]'(by omega), List.getElem?_eq_getElem _⟩
  refine ⟨fun i m σ H => m = n - i ∧ i ≤ n ∧ Pv i σ H, ⟨n, rfl, Nat.zero_le _, h0⟩, ?_⟩
  rintro i m σ H ⟨rfl, hi, p⟩
  have q := hq i σ H hi p
  by_cases hlt : i < n
  · refine .inr ⟨⟨rs.map fun r => r.getD i .non, by rw [List.length_map, hal], hsz, fun j a h => ?_⟩, Pv (i + 1), fun σ' H' p' => ⟨n - (i + 1), by omega, rfl, hlt, p'⟩, fun v H' y => ?_⟩
    · obtain ⟨r, h1, h2⟩ := hr j a h
      have h3 : r[i]? = some (r[i]'(by omega)) := List.getElem?_eq_getElem _
      exact ⟨r, _, q j a r h h1, h3, by rw [List.getElem?_map, h1]; show some (r.getD i .non) = _; rw [List.getD_eq_getElem?_getD, h3]; rfl⟩
    · obtain ⟨T, vs, rfl, hT, rfl, hvl, hv⟩ := y
      refine hs i vs T σ H hlt hvl (fun j r h => ?_) p hT
      obtain ⟨a, h1⟩ := ha j r h
      exact hv j a h1 r (q j a r h1 h)
  · have e : i = n := by omega
    subst e
    obtain ⟨a0, h0⟩ : ∃ a, as[0]? = some a := by
      cases as with
      | nil => exact absurd rfl hne
      | cons x r => exact ⟨x, rfl⟩
    obtain ⟨r, h1, h2⟩ := hr 0 a0 h0
    exact .inl ⟨⟨a0, r, h0, q 0 a0 r h0 h1, by omega⟩, hd σ H p⟩
theorem q_forZS {σ : L2.St} {H : Hp} {te : TE} {L : Addr} {as : List Addr} {rs : List (List V)} {n j : Nat} {tu tz : TS} {D : Ends} (h : Ev te σ H (.ref L)) (hL : H L = some (.lst (as.map V.ref))) (hR : ∀ (j : Nat) (a : Addr) (r : List V), as[j]? = some a → rs[j]? = some r → SqL K H a r) (hlen : ∀ r ∈ rs, r.length = n) (hal : as.length = rs.length) (hne : as ≠ []) (hsz : as.length ≤ sizeLine)
    (Pv : Nat → L2.St → Hp → Prop) (h0 : ∀ H1, Ex H H1 → Pv 0 σ H1) (hq : ∀ i σ H, i ≤ n → Pv i σ H → ∀ (j : Nat) (a : Addr) (r : List V), as[j]? = some a → rs[j]? = some r → SqL K H a r)
    (hs : ∀ (i : Nat) (vs : List V) (T : Addr) (σ : L2.St) (H : Hp), i < n → vs.length = as.length → (∀ (j : Nat) (r : List V), rs[j]? = some r → r[i]? = vs[j]?) → Pv i σ H → H T = none → tu { D with nx := Pv (i + 1), ct := Pv (i + 1), bk := tz D } (σ.set j (some (.ref T))) (upd H T (.tup vs))) (hd : ∀ σ H, Pv n σ H → tz D σ H) :
    tSeq (tFor (ZN.iZipS K te) (gName j) tu) tz D σ H := h H (Ex.refl H) _ fun H1 e1 => ⟨L, as, rfl, sq_of (e1 _ _ hL), hne, hsz, fun b hb => (by
      obtain ⟨i, hi⟩ := List.mem_iff_getElem?.mp hb
      have hil := (List.getElem?_eq_some_iff.mp hi).1
      have hr : rs[i]? = some (rs[i]'(by omega)) := List.getElem?_eq_getElem _
      exact ⟨_, ex_l e1 (hR i b _ hi hr)⟩), for_zipN (D := { D with nx := tz D }) hlen hal hne hsz Pv (h0 H1 e1) hq (fun i vs T σ H a1 a2 a3 a4 a5 => hs i vs T σ H a1 a2 a3 a4 a5) hd⟩

/-! ### objects that are made once -/
def FrO (a : Addr) (H H' : Hp) : Prop := ∀ b o, b ≠ a → H b = some o → H' b = some o
theorem FrO.ex {a : Addr} {H H' : Hp} (e : Ex H H') : FrO a H H' := fun b o _ h => e b o h
theorem FrO.trans {a : Addr} {H H1 H2 : Hp} (x : FrO a H H1) (y : FrO a H1 H2) : FrO a H H2 := fun b o hb h => y b o hb (x b o hb h)
theorem FrO.upd {a : Addr} {H H' : Hp} {o : HO} (f : FrO a H H') : FrO a H (upd H' a o) := fun b u hb h => by rw [upd_ne hb]; exact f b u hb h
def EvN (te : TE) (σ : L2.St) (H : Hp) (R : Addr → Hp → Prop) : Prop := ∀ H1, Ex H H1 → ∀ Q : VK, (∀ p H2, H1 p = none → Ex H1 H2 → R p H2 → Q (.ref p) H2) → te σ H1 Q
section
variable {K : PySem.W.Frag} {σ : L2.St} {H : Hp} {te ta tb : TE} {C : Addr} {sp : Sp} {dvs vs zs : List V} {E : XK} {t tk : TA} {R : Addr → Hp → Prop} {D : Ends} {tz : TS} {n m i : Nat} {gV : List V → List V → List V}
theorem en_make (h : EvA t σ H vs) (k : ∀ a dx H1 (Q : VK) (E : XK), Ex H H1 → H1 a = some (.ins C dx []) → (∀ H', FrO a H1 H' → R a H' → Q .non H') → sp (.ref a :: (vs ++ dvs)) H1 Q E) : EvN (tMake C sp dvs E t) σ H R := fun H1 e Q q =>
  h H1 e _ fun H2 e2 => fun x dx hx hdx hne => k x dx _ _ _ ((e.trans e2).trans (Ex.mut (Ex.new hdx) hx)) upd_same fun H' hF hR => ⟨rfl, q x H' (fresh_back e2 hx) (fun b o hb => hF b o (fresh_ne hx (e2 b o hb)) ((Ex.mut (Ex.new hdx) hx) b o (e2 b o hb))) hR⟩
theorem en_makeK (h : EvA t σ H vs) (hz : EvA tk σ H zs) (l1 : vs.length = n) (l2 : zs.length = m) (k : ∀ a dx H1 (Q : VK) (E : XK), Ex H H1 → H1 a = some (.ins C dx []) → (∀ H', FrO a H1 H' → R a H' → Q .non H') → sp (gV (.ref a :: vs) zs) H1 Q E) : EvN (tMakeK C n m sp gV E t tk) σ H R := fun H1 e Q q =>
  h H1 e _ fun H2 e2 => hz H2 (e.trans e2) _ fun H3 e3 => ⟨l1, l2, fun x dx hx hdx hne => k x dx _ _ _ (((e.trans e2).trans e3).trans (Ex.mut (Ex.new hdx) hx)) upd_same fun H' hF hR => ⟨rfl, q x H' (fresh_back (e2.trans e3) hx) (fun b o hb => hF b o (fresh_ne hx ((e2.trans e3) b o hb)) ((Ex.mut (Ex.new hdx) hx) b o ((e2.trans e3) b o hb))) hR⟩⟩
theorem en_makeF (h : EvA t σ H vs) (k : ∀ a dx H1 (Q : VK) (E : XK), Ex H H1 → H a = none → H1 a = some (.ins C dx []) → (∀ H', FrO a H1 H' → R a H' → Q .non H') → sp (.ref a :: (vs ++ dvs)) H1 Q E) : EvN (tMake C sp dvs E t) σ H R := fun H1 e Q q =>
  h H1 e _ fun H2 e2 => fun x dx hx hdx hne => k x dx _ _ _ ((e.trans e2).trans (Ex.mut (Ex.new hdx) hx)) (fresh_back (e.trans e2) hx) upd_same fun H' hF hR => ⟨rfl, q x H' (fresh_back e2 hx) (fun b o hb => hF b o (fresh_ne hx (e2 b o hb)) ((Ex.mut (Ex.new hdx) hx) b o (e2 b o hb))) hR⟩
theorem en_makeKF (h : EvA t σ H vs) (hz : EvA tk σ H zs) (l1 : vs.length = n) (l2 : zs.length = m) (k : ∀ a dx H1 (Q : VK) (E : XK), Ex H H1 → H a = none → H1 a = some (.ins C dx []) → (∀ H', FrO a H1 H' → R a H' → Q .non H') → sp (gV (.ref a :: vs) zs) H1 Q E) : EvN (tMakeK C n m sp gV E t tk) σ H R := fun H1 e Q q =>
  h H1 e _ fun H2 e2 => hz H2 (e.trans e2) _ fun H3 e3 => ⟨l1, l2, fun x dx hx hdx hne => k x dx _ _ _ (((e.trans e2).trans e3).trans (Ex.mut (Ex.new hdx) hx)) (fresh_back ((e.trans e2).trans e3) hx) upd_same fun H' hF hR => ⟨rfl, q x H' (fresh_back (e2.trans e3) hx) (fun b o hb => hF b o (fresh_ne hx ((e2.trans e3) b o hb)) ((Ex.mut (Ex.new hdx) hx) b o ((e2.trans e3) b o hb))) hR⟩⟩
/-- what stood before the object was made stands -/
theorem FrO.after {a : Addr} {H0 G H' : Hp} (f : FrO a G H') (e : Ex H0 G) (hn : H0 a = none) : Ex H0 H' := fun b o hb => f b o (by rintro rfl; rw [hn] at hb; cases hb) (e b o hb)
theorem q_asgN (h : EvN te σ H R) (k : ∀ p H1, H p = none → Ex H H1 → R p H1 → tz D (σ.set i (some (.ref p))) H1) : tSeq (tAsg te (gName i)) tz D σ H := h H (Ex.refl H) _ k
theorem s_asgN (h : EvN te σ H R) (k : ∀ p H1, H p = none → Ex H H1 → R p H1 → D.nx (σ.set i (some (.ref p))) H1) : tAsg te (gName i) D σ H := h H (Ex.refl H) _ k
theorem s_retN (h : EvN te σ H R) (k : ∀ p H1, H p = none → Ex H H1 → R p H1 → D.rt (.ref p) H1) : tRet te D σ H := h H (Ex.refl H) _ k
theorem el_if {c : TT} {b : Bool} {xs : List V} (h : EvT c σ H b) (h1 : b = true → EvL ta σ H xs) (h2 : b = false → EvL tb σ H xs) : EvL (tIf c ta tb) σ H xs := fun H1 e Q q => h H1 e _ fun H2 e2 => by
  cases b with
  | true =>
    rw [if_pos rfl]
    exact h1 rfl H2 (e.trans e2) Q fun p H3 hp e3 g => q p H3 (fresh_back e2 hp) (e2.trans e3) g
  | false =>
    rw [if_neg (by decide)]
    exact h2 rfl H2 (e.trans e2) Q fun p H3 hp e3 g => q p H3 (fresh_back e2 hp) (e2.trans e3) g
theorem s_fldL {a dx : Addr} {fs : List (Str × V)} {f : Str} {to tv : TE} {xs : List V} (c : Cls K C) (hn : NoAttr K C f) (hv : EvL tv σ H xs) (h : ∀ H1, Ex H H1 → Ev to σ H1 (.ref a)) (hx : H a = some (.ins C dx fs)) (hl : fs.length < 1000) (k : ∀ p H1, H p = none → Ex H H1 → H1 p = some (.lst xs) → D.nx σ (upd H1 a (.ins C dx (putF f (.ref p) fs)))) : sFld K to tv f D σ H :=
  hv H (Ex.refl H) _ fun p H1 hp e1 g1 => h H1 e1 H1 (Ex.refl H1) _ fun H2 e2 => ⟨a, C, dx, fs, rfl, (e1.trans e2) _ _ hx, c, hn, hl, k p H2 hp (e1.trans e2) (e2 _ _ g1)⟩
end

/-! ### arguments some of which are new objects -/
def EvAP (t : TA) (σ : L2.St) (H : Hp) (R : List V → Hp → Prop) : Prop := ∀ H1, Ex H H1 → ∀ Q : List V → Hp → Prop, (∀ vs H2, Ex H1 H2 → R vs H2 → Q vs H2) → t σ H1 Q
section
variable {K : PySem.W.Frag} {σ : L2.St} {H : Hp} {te : TE} {tr t : TA} {x : V} {xs : List V} {R : List V → Hp → Prop} {C : Addr} {sp : Sp} {dvs : List V} {E : XK} {S : Addr → Hp → Prop} {D : Ends} {tz : TS} {i : Nat}
theorem ap_nil : EvAP tNil σ H fun vs _ => vs = [] := fun H1 _ _ q => q [] H1 (Ex.refl H1) rfl
theorem ap_ev (h : Ev te σ H x) (hr : EvAP tr σ H R) : EvAP (tCons te tr) σ H fun vs G => ∃ r, vs = x :: r ∧ R r G := fun H1 e Q q =>
  h H1 e _ fun H2 e2 => hr H2 (e.trans e2) _ fun vs H3 e3 hR => q (x :: vs) H3 (e2.trans e3) ⟨vs, rfl, hR⟩
theorem ap_l (h : EvL te σ H xs) (hr : EvAP tr σ H R) : EvAP (tCons te tr) σ H fun vs G => ∃ p r, vs = .ref p :: r ∧ H p = none ∧ G p = some (.lst xs) ∧ R r G := fun H1 e Q q =>
  h H1 e _ fun p H2 hp e2 g => hr H2 (e.trans e2) _ fun vs H3 e3 hR => q (.ref p :: vs) H3 (e2.trans e3) ⟨p, vs, rfl, fresh_back e hp, e3 _ _ g, hR⟩
theorem ap_u (h : EvU te σ H xs) (hr : EvAP tr σ H R) : EvAP (tCons te tr) σ H fun vs G => ∃ p r, vs = .ref p :: r ∧ H p = none ∧ G p = some (.tup xs) ∧ R r G := fun H1 e Q q =>
  h H1 e _ fun p H2 hp e2 g => hr H2 (e.trans e2) _ fun vs H3 e3 hR => q (.ref p :: vs) H3 (e2.trans e3) ⟨p, vs, rfl, fresh_back e hp, e3 _ _ g, hR⟩
theorem en_makeAP (h : EvAP t σ H R) (k : ∀ vs a dx H1 (Q : VK) (E : XK), Ex H H1 → (∃ G, Ex G H1 ∧ R vs G) → H1 a = some (.ins C dx []) → (∀ H', FrO a H1 H' → S a H' → Q .non H') → sp (.ref a :: (vs ++ dvs)) H1 Q E) : EvN (tMake C sp dvs E t) σ H S := fun H1 e Q q =>
  h H1 e _ fun vs H2 e2 hR => fun x dx hx hdx hne => k vs x dx _ _ _ ((e.trans e2).trans (Ex.mut (Ex.new hdx) hx)) ⟨H2, Ex.mut (Ex.new hdx) hx, hR⟩ upd_same fun H' hF hS => ⟨rfl, q x H' (fresh_back e2 hx) (fun b o hb => hF b o (fresh_ne hx (e2 b o hb)) ((Ex.mut (Ex.new hdx) hx) b o (e2 b o hb))) hS⟩
theorem q_asgAP (h : EvAP t σ H R) (k : ∀ vs H1, Ex H H1 → R vs H1 → sp (vs ++ dvs) H1 (fun x H2 => tz D (σ.set i (some x)) H2) E) : tSeq (tAsg (tCall sp dvs E t) (gName i)) tz D σ H := h H (Ex.refl H) _ fun vs H1 e hR => k vs H1 e hR
theorem s_retAP (h : EvAP t σ H R) (k : ∀ vs H1, Ex H H1 → R vs H1 → sp (vs ++ dvs) H1 D.rt E) : tRet (tCall sp dvs E t) D σ H := h H (Ex.refl H) _ fun vs H1 e hR => k vs H1 e hR
end

/-! ### values of which something is told -/
def EvX (te : TE) (σ : L2.St) (H : Hp) (S : V → Hp → Prop) : Prop := ∀ H1, Ex H H1 → ∀ Q : VK, (∀ v H2, Ex H1 H2 → S v H2 → Q v H2) → te σ H1 Q
def Up (S : V → Hp → Prop) : Prop := ∀ v H H', Ex H H' → S v H → S v H'
section
variable {K : PySem.W.Frag} {σ : L2.St} {H : Hp} {te ta tb : TE} {tr t : TA} {R : List V → Hp → Prop} {C : Addr} {sp : Sp} {dvs : List V} {E : XK} {S S' S2 : V → Hp → Prop} {D : Ends} {tz : TS} {i : Nat}
theorem Ev.x {v : V} (h : Ev te σ H v) (hS : ∀ H1, Ex H H1 → S v H1) : EvX te σ H S := fun H1 e Q q => h H1 e _ fun H2 e2 => q v H2 e2 (hS H2 (e.trans e2))
theorem EvN.x {R' : Addr → Hp → Prop} (h : EvN te σ H R') (hS : ∀ p H1, Ex H H1 → R' p H1 → S (.ref p) H1) : EvX te σ H S := fun H1 e Q q => h H1 e _ fun p H2 _ e2 hR => q (.ref p) H2 e2 (hS p H2 (e.trans e2) hR)
theorem ex_call1 (h : EvX te σ H S) (k : ∀ v H1 (Q : VK) (E : XK), Ex H H1 → S v H1 → (∀ v' H2, Ex H1 H2 → S' v' H2 → Q v' H2) → sp ([v] ++ dvs) H1 Q E) : EvX (tCall sp dvs E (tCons te tNil)) σ H S' := fun H1 e Q q =>
  h H1 e _ fun v H2 e2 hS => k v H2 _ _ (e.trans e2) hS fun v' H3 e3 hS' => q v' H3 (e2.trans e3) hS'
theorem ex_call2 (h : EvX ta σ H S) (hu : Up S) (h2 : EvX tb σ H S2) (k : ∀ v w H1 (Q : VK) (E : XK), Ex H H1 → S v H1 → S2 w H1 → (∀ v' H2, Ex H1 H2 → S' v' H2 → Q v' H2) → sp ([v, w] ++ dvs) H1 Q E) : EvX (tCall sp dvs E (tCons ta (tCons tb tNil))) σ H S' := fun H1 e Q q =>
  h H1 e _ fun v H2 e2 hS => h2 H2 (e.trans e2) _ fun w H3 e3 hS2 => k v w H3 _ _ ((e.trans e2).trans e3) (hu _ _ _ e3 hS) hS2 fun v' H4 e4 hS' => q v' H4 ((e2.trans e3).trans e4) hS'
theorem EvX.val {v : V} (h : EvX te σ H fun x _ => x = v) : Ev te σ H v := fun H1 e Q q => h H1 e _ fun x H2 e2 hx => by rw [hx]; exact q H2 e2
theorem q_asgX (h : EvX te σ H S) (k : ∀ v H1, Ex H H1 → S v H1 → tz D (σ.set i (some v)) H1) : tSeq (tAsg te (gName i)) tz D σ H := h H (Ex.refl H) _ fun v H1 e hS => k v H1 e hS
theorem ap_x (h : EvX te σ H S) (hu : Up S) (hr : EvAP tr σ H R) : EvAP (tCons te tr) σ H fun vs G => ∃ v r, vs = v :: r ∧ S v G ∧ R r G := fun H1 e Q q =>
  h H1 e _ fun v H2 e2 hS => hr H2 (e.trans e2) _ fun vs H3 e3 hR => q (v :: vs) H3 (e2.trans e3) ⟨v, vs, rfl, hu _ _ _ e3 hS, hR⟩
theorem s_retAPL (h : EvAP t σ H R) (hl : ∀ vs G, R vs G → vs.length ≤ 100000) (k : ∀ p vs H1 H2, H p = none → Ex H H1 → R vs H1 → Ex H1 H2 → H2 p = some (.lst vs) → D.rt (.ref p) H2) : tRet (tLst t) D σ H := h H (Ex.refl H) _ fun vs H1 e hR => ⟨sz_of (hl vs H1 hR), fun p hp => k p vs H1 _ (fresh_back e hp) e hR (Ex.new hp) upd_same⟩
theorem ev_eqX {K : PySem.W.Frag} {b : Bool} (ha : EvX ta σ H S) (hu : Up S) (hb : EvX tb σ H S2) (h : ∀ x y G, Ex H G → S x G → S2 y G → ∃ a dx fs t, x = .ref a ∧ G a = some (.ins C dx fs) ∧ TyX K G y t ∧ PySem.W.notFirst K C t = true ∧ SpV sp [.ref a, y] G (.bl b)) : Ev (tOp (rEqO C sp E K) ta tb) σ H (.bl b) := fun H1 e Q q =>
  ha H1 e _ fun x H2 e2 hS => hb H2 (e.trans e2) _ fun y H3 e3 hS2 => by
    obtain ⟨a, dx, fs, t, rfl, h1, h2, h3, h4⟩ := h x y H3 ((e.trans e2).trans e3) (hu _ _ _ e3 hS) hS2
    exact ⟨a, dx, fs, t, rfl, h1, h2, h3, h4 H3 (Ex.refl _) _ (fun H4 e4 => ⟨⟨b, rfl⟩, q H4 ((e2.trans e3).trans e4)⟩) E⟩
theorem ev_eqDv {d d' : PyData} (h1 : EvD K ta σ H d) (h2 : EvD K tb σ H d') (hs : SeqAt.shaped d = true) (hs' : SeqAt.shaped d' = true) : Ev (tOp (rEqD K) ta tb) σ H (.bl (PyData.eqv d d')) := fun H1 e Q q => h1 H1 e _ fun v H2 e2 hv => h2 H2 (e.trans e2) _ fun u H3 e3 hu =>
  ⟨d, d', dp_ex e3 d v hv, hu, hs, hs', q H3 (e2.trans e3)⟩
theorem ev_neDv {d d' : PyData} (h1 : EvD K ta σ H d) (h2 : EvD K tb σ H d') (hs : SeqAt.shaped d = true) (hs' : SeqAt.shaped d' = true) : Ev (tOp (rNeD K) ta tb) σ H (.bl (!PyData.eqv d d')) := fun H1 e Q q => h1 H1 e _ fun v H2 e2 hv => h2 H2 (e.trans e2) _ fun u H3 e3 hu =>
  ⟨d, d', dp_ex e3 d v hv, hu, hs, hs', q H3 (e2.trans e3)⟩
end

/-! ### lists of lists -/
/-- rows at their addresses, new over H0, not D -/
def LLAt (H0 H : Hp) (D : Addr) : List Addr → List (List V) → Prop
  | [], [] => True
  | q :: qs, r :: rs => (H q = some (.lst r) ∧ H0 q = none ∧ q ≠ D ∧ q ∉ qs) ∧ LLAt H0 H D qs rs
  | _, _ => False
theorem LLAt.len {H0 H : Hp} {D : Addr} : ∀ {qs : List Addr} {rs : List (List V)}, LLAt H0 H D qs rs → qs.length = rs.length
  | [], [], _ => rfl
  | _ :: _, _ :: _, h => congrArg Nat.succ (LLAt.len h.2)
  | [], _ :: _, h => h.elim
  | _ :: _, [], h => h.elim
theorem LLAt.get {H0 H : Hp} {D : Addr} : ∀ {qs : List Addr} {rs : List (List V)}, LLAt H0 H D qs rs → ∀ (i : Nat) (q : Addr), qs[i]? = some q → ∃ r, rs[i]? = some r ∧ H q = some (.lst r) ∧ H0 q = none ∧ q ≠ D
  | [], _, _, i, p, hp => by simp at hp
  | q :: ps, f :: fs, h, 0, p, hp => by cases hp; exact ⟨f, rfl, h.1.1, h.1.2.1, h.1.2.2.1⟩
  | q :: ps, f :: fs, h, i + 1, p, hp => LLAt.get h.2 i p hp
  | _ :: _, [], h, _, _, _ => h.elim
theorem LLAt.mono {H0 H H' : Hp} {D : Addr} (e : ∀ q o, q ≠ D → H q = some o → H' q = some o) : ∀ {qs : List Addr} {rs : List (List V)}, LLAt H0 H D qs rs → LLAt H0 H' D qs rs
  | [], [], _ => trivial
  | _ :: _, _ :: _, h => ⟨⟨e _ _ h.1.2.2.1 h.1.1, h.1.2⟩, LLAt.mono e h.2⟩
  | [], _ :: _, h => h.elim
  | _ :: _, [], h => h.elim
theorem LLAt.known {H0 H : Hp} {D : Addr} : ∀ {qs : List Addr} {rs : List (List V)}, LLAt H0 H D qs rs → ∀ q ∈ qs, H q ≠ none
  | [], _, _, q, hq => by cases hq
  | x :: qs, r :: rs, h, q, hq => by
    rcases List.mem_cons.mp hq with rfl | hq
    · rw [h.1.1]; exact fun z => by cases z
    · exact LLAt.known h.2 q hq
  | _ :: _, [], h, _, _ => h.elim
theorem LLAt.snoc {H0 H : Hp} {D q : Addr} {r : List V} (hq : H q = some (.lst r)) (h0 : H0 q = none) (hD : q ≠ D) : ∀ {qs : List Addr} {rs : List (List V)}, LLAt H0 H D qs rs → q ∉ qs → LLAt H0 H D (qs ++ [q]) (rs ++ [r])
  | [], [], _, _ => ⟨⟨hq, h0, hD, List.not_mem_nil⟩, trivial⟩
  | x :: qs, _ :: _, h, hn => ⟨⟨h.1.1, h.1.2.1, h.1.2.2.1, fun z => by
      rcases List.mem_append.mp z with z | z
      · exact h.1.2.2.2 z
      · exact hn (by rw [List.mem_singleton.mp z]; exact List.mem_cons_self ..)⟩, LLAt.snoc hq h0 hD h.2 fun z => hn (List.mem_cons_of_mem _ z)⟩
  | [], _ :: _, h, _ => h.elim
  | _ :: _, [], h, _ => h.elim
theorem LLAt.back {H0 H1 H : Hp} {D : Addr} (e : Ex H0 H1) : ∀ {qs : List Addr} {rs : List (List V)}, LLAt H1 H D qs rs → LLAt H0 H D qs rs
  | [], [], _ => trivial
  | _ :: _, _ :: _, h => ⟨⟨h.1.1, fresh_back e h.1.2.1, h.1.2.2⟩, LLAt.back e h.2⟩
  | [], _ :: _, h => h.elim
  | _ :: _, [], h => h.elim
def EvLL (te : TE) (σ : L2.St) (H : Hp) (rs : List (List V)) : Prop := ∀ H1, Ex H H1 → ∀ Q : VK, (∀ p qs H2, H1 p = none → Ex H1 H2 → H2 p = some (.lst (qs.map V.ref)) → LLAt H1 H2 p qs rs → Q (.ref p) H2) → te σ H1 Q
section
variable {K : PySem.W.Frag} {σ : L2.St} {H : Hp} {t1 te : TE} {xs : List V} {vs : List Nat} {j i : Nat} {D : Ends} {tz : TS}
theorem q_asgLL {rs : List (List V)} (h : EvLL te σ H rs) (k : ∀ p qs H1, H p = none → Ex H H1 → H1 p = some (.lst (qs.map V.ref)) → LLAt H H1 p qs rs → tz D (σ.set i (some (.ref p))) H1) : tSeq (tAsg te (gName i)) tz D σ H := h H (Ex.refl H) _ k
theorem s_retLL {rs : List (List V)} (h : EvLL te σ H rs) (k : ∀ p qs H1, H p = none → Ex H H1 → H1 p = some (.lst (qs.map V.ref)) → LLAt H H1 p qs rs → D.rt (.ref p) H1) : tRet te D σ H := h H (Ex.refl H) _ k
theorem ll_lc (rs : List (List V)) (h1 : EvS K t1 σ H xs) (hz : rs.length = xs.length) (hb : rs.length ≤ 50000) (hw : ∀ x, wipe ((wipe σ vs).set j (some x)) vs = wipe σ vs)
    (he : ∀ (i : Nat) (x : V) H1, Ex H H1 → xs[i]? = some x → ∃ z, rs[i]? = some z ∧ EvL te ((wipe σ vs).set j (some x)) H1 z) :
    EvLL (tLc (iList K t1) (gName j) tYes te vs) σ H rs := fun H0 e Q q =>
  h1 H0 e _ fun p H1 e1 hp => ⟨p, rfl, ⟨xs, hp⟩, fun D hD => lc_list (xs := xs) (fun i H' => Ex H1 H' ∧ ∃ qs : List Addr, H' D = some (.lst (qs.map V.ref)) ∧ LLAt H1 H' D qs (rs.take i)) ⟨Ex.new hD, [], upd_same, trivial⟩ (fun i H' _ h => ex_l h.1 hp)
    (fun i x H' hi h => ⟨hw x, by
      obtain ⟨ex, qs, gD, hL⟩ := h
      obtain ⟨z, hz1, hz2⟩ := he i x H' ((e.trans e1).trans ex) hi
      have hl : i < xs.length := (List.getElem?_eq_some_iff.mp hi).1
      refine hz2 H' (Ex.refl _) _ fun r H4 hr e4 g4 => ⟨qs.map V.ref, e4 _ _ gD, sz_lt (by rw [List.length_map, hL.len, List.length_take]; omega), Ex.mut (ex.trans e4) hD, qs ++ [r], by rw [upd_same, List.map_append]; rfl, ?_⟩
      have hrD : r ≠ D := by rintro rfl; rw [gD] at hr; cases hr
      have := (hL.mono (H' := upd H4 D (.lst (qs.map V.ref ++ [.ref r]))) fun q o hq g => by rw [upd_ne hq]; exact e4 _ _ g).snoc (by rw [upd_ne hrD]; exact g4) (fresh_back ex hr) hrD fun z => hL.known r z hr
      rw [show rs.take (i + 1) = rs.take i ++ [z] by rw [List.take_add_one, hz1]; rfl]
      exact this⟩)
    (fun H' h => by
      obtain ⟨ex, qs, gD, hL⟩ := h
      rw [← hz, List.take_length] at hL
      exact q D qs H' (fresh_back e1 hD) (e1.trans ex) gD (hL.back e1))⟩
end

/-! ### lists of rows -/
def lowB (n : Int) (c : Nat) : List Int := (List.range c).map fun i => n / 2 ^ (8 * i) % 256
theorem lowB_len (n : Int) (c : Nat) : (lowB n c).length = c := by unfold lowB; rw [List.length_map, List.length_range]
def gx0 (xs : List Int) (i : Nat) : Int := xs.getD i 0
def col (rs : List (List Int)) (i : Nat) : List Int := rs.map fun r => gx0 r i
def RwAt (H : Hp) (as : List Addr) (rs : List (List Int)) : Prop := as.length = rs.length ∧ ∀ (j : Nat) (a : Addr) (r : List Int), as[j]? = some a → rs[j]? = some r → H a = some (.lst (r.map V.int))
theorem RwAt.ex {H H1 : Hp} {as : List Addr} {rs : List (List Int)} (h : RwAt H as rs) (e : Ex H H1) : RwAt H1 as rs := ⟨h.1, fun j a r h1 h2 => e _ _ (h.2 j a r h1 h2)⟩
theorem flat_snocI {α β : Type} {f : α → List β} {l : List α} {i : Nat} {x : α} (h : l[i]? = some x) : (l.take (i + 1)).flatMap f = (l.take i).flatMap f ++ f x := by
  rw [List.take_add_one, h, List.flatMap_append]
  show _ ++ (f x ++ []) = _
  rw [List.append_nil]
theorem flat_lenI {α β : Type} {f : α → List β} {m : Nat} (hf : ∀ x, (f x).length = m) : ∀ l : List α, (l.flatMap f).length = l.length * m
  | [] => by simp
  | x :: l => by rw [List.flatMap_cons, List.length_append, hf, flat_lenI hf l, List.length_cons, Nat.succ_mul, Nat.add_comm]
theorem col_len (rs : List (List Int)) (i : Nat) : (col rs i).length = rs.length := List.length_map ..
theorem flat_atI {α β : Type} {f : α → List β} {w : Nat} (hf : ∀ x, (f x).length = w) : ∀ (l : List α) (i j : Nat) (x : α), l[i]? = some x → j < w → (l.flatMap f)[i * w + j]? = (f x)[j]?
  | y :: l, 0, j, x, h, hj => by
    cases h
    rw [List.flatMap_cons, Nat.zero_mul, Nat.zero_add, List.getElem?_append_left (by rw [hf]; exact hj)]
  | y :: l, i + 1, j, x, h, hj => by
    rw [List.flatMap_cons, List.getElem?_append_right (by rw [hf, Nat.succ_mul]; omega), hf, show (i + 1) * w + j - w = i * w + j by rw [Nat.succ_mul]; omega]
    exact flat_atI hf l i j x h hj
theorem q_goT {te : TE} {i : Nat} {tz : TS} {D : Ends} {σ : L2.St} {H : Hp} (h : te σ H fun v H1 => tz D (σ.set i (some v)) H1) : tSeq (tAsg te (gName i)) tz D σ H := h
theorem RwAt.mut {H H1 : Hp} {as : List Addr} {rs : List (List Int)} {c : Addr} {o : HO} (h : RwAt H as rs) (e : Ex H H1) (hc : ∀ a ∈ as, a ≠ c) : RwAt (upd H1 c o) as rs := ⟨h.1, fun j a r h1 h2 => by rw [upd_ne (hc a (List.mem_of_getElem? h1))]; exact e _ _ (h.2 j a r h1 h2)⟩
theorem RwAt.snoc {H : Hp} {as : List Addr} {rs : List (List Int)} {a : Addr} {r : List Int} (h : RwAt H as rs) (ha : H a = some (.lst (r.map V.int))) : RwAt H (as ++ [a]) (rs ++ [r]) := ⟨by rw [List.length_append, List.length_append, h.1]; rfl, fun j b q h1 h2 => by
  by_cases hj : j < as.length
  · rw [List.getElem?_append_left hj] at h1
    rw [List.getElem?_append_left (by rw [← h.1]; exact hj)] at h2
    exact h.2 j b q h1 h2
  · rw [List.getElem?_append_right (by omega)] at h1
    rw [List.getElem?_append_right (by rw [← h.1]; omega), ← h.1] at h2
    have hj0 := (List.getElem?_eq_some_iff.mp h1).1
    have : j - as.length = 0 := by simp at hj0; omega
    rw [this] at h1 h2
    cases h1
    cases h2
    exact ha⟩
theorem dp_rws {H : Hp} : ∀ {as : List Addr} {rs : List (List Int)}, RwAt H as rs → DpAll K H (as.map V.ref) (rs.map fun r => PyData.list (r.map PyData.int))
  | [], [], _ => .nil
  | a :: as, r :: rs, h => .cons (.lst (sq_of (h.2 0 a r rfl rfl)) (dp_ints _)) (dp_rws ⟨by have := h.1; simpa using this, fun j b q h1 h2 => h.2 (j + 1) b q h1 h2⟩)
  | [], _ :: _, h => by have := h.1; simp at this
  | _ :: _, [], h => by have := h.1; simp at this
def rwsD (rs : List (List Int)) : PyData := .list (rs.map fun r => PyData.list (r.map PyData.int))
theorem lay_rws : ∀ rs : List (List Int), PyData.canLayAll0 (rs.map fun r => PyData.list (r.map PyData.int)) = true ∧ PyData.depthAll (rs.map fun r => PyData.list (r.map PyData.int)) ≤ 2
  | [] => ⟨rfl, by simp [PyData.depthAll]⟩
  | r :: rs => by
    obtain ⟨h1, h2⟩ := lay_rws rs
    have h3 := canLay_ints r
    have h4 := depth_ints r
    refine ⟨by simp only [List.map_cons, PyData.canLayAll0, PyData.canLay0, h1, h3, Bool.and_self], ?_⟩
    simp only [List.map_cons, PyData.depthAll, PyData.depth]
    omega
theorem shaped_rws (rs : List (List Int)) : SeqAt.shaped (rwsD rs) = true := by
  obtain ⟨h1, h2⟩ := lay_rws rs
  unfold SeqAt.shaped rwsD
  rw [Bool.and_eq_true, decide_eq_true_iff]
  refine ⟨by simp only [PyData.canLay0, h1], ?_⟩
  simp only [PyData.depth]
  omega
theorem ref_at {as : List Addr} {i : Nat} {x : V} (h : (as.map V.ref)[i]? = some x) : ∃ a, as[i]? = some a ∧ x = .ref a := by
  rw [List.getElem?_map] at h
  obtain ⟨a, h1, rfl⟩ := Option.map_eq_some_iff.mp h
  exact ⟨a, h1, rfl⟩

/-! ### the law's channels -/
def sp_lch : Sp := fun vs H Q _ => ∃ (c : Int) (n D : Nat), vs = [.int c, .int (n : Int), .int (D : Int)] ∧ n ≤ 8 ∧ 4 ≤ D ∧ D ≤ 32 ∧ ∀ p (r : List Int) H', H p = none → Ex H H' → H' p = some (.lst (r.map V.int)) → r.length = n → (∀ x ∈ r, -(2 ^ (D - 1)) ≤ x ∧ x < 2 ^ (D - 1)) → Q (.ref p) H'
theorem ok_law_channel (T : TX K mg) : FnOk P w K mg base CX0 2 T.a_law_channel T.d_law_channel ["cell", "many", "depth"] sp_lch := by
  refine T.F_law_channel.ok sc_law_channel (fun vs H Q E h => by obtain ⟨c, n, D, rfl, _⟩ := h; rfl) (fun cdv A outer s H vs Q E hr h => ?_)
  obtain ⟨c, n, D, rfl, hn, hD4, hD, k⟩ := h
  refine ⟨_, (pss_cons (ps_set (i := 3) sc_law_channel.nd rfl (Or.inl rfl) (pe_call (ok_law_draw T) (hr.mono (by decide)) (by rfl) T.g_law_draw T.F_law_draw.kp T.b_law_draw .nil pass0 (pa_cons (pv 0) (pa_cons (pv 1) (pa_cons (pe_op op_shl pe_int pe_int) pa_nil)))))
      (pss_cons (ps_set (i := 4) sc_law_channel.nd rfl (Or.inl rfl) (pe_lst pa_nil))
      (pss_cons (ps_for PassesOwn.never rfl (pi_list (pv 3)) (pg_name (i := 5) sc_law_channel.nd rfl (Or.inl rfl)) (pss_cons (ps_set (i := 6) sc_law_channel.nd rfl (Or.inl rfl) (pe_op op_sub (pe_op op_mod (pe_callTy call_int1 (by rfl) T.m_int PyProof.Rows.boot_int (pa_cons (pe_op op_fdiv (pv 5) pe_int) pa_nil)) (pe_op op_shl pe_int (pv 2))) (pe_op op_shl pe_int (pe_op op_sub (pv 2) pe_int))))
        (pss_cons (ps_if (pt_cmpR op_eq (pe_op op_mod (pe_callTy call_int1 (by rfl) T.m_int PyProof.Rows.boot_int (pa_cons (pv 5) pa_nil)) pe_int) pe_int (nomark _)) (pss_one (ps_set (i := 6) sc_law_channel.nd rfl (Or.inl rfl) (pe_un un_neg (pe_op op_shl pe_int (pe_op op_sub (pv 2) pe_int))))) pss_nil)
        (pss_cons (ps_if (pt_cmpR op_eq (pe_op op_mod (pe_callTy call_int1 (by rfl) T.m_int PyProof.Rows.boot_int (pa_cons (pv 5) pa_nil)) pe_int) pe_int (nomark _)) (pss_one (ps_set (i := 6) sc_law_channel.nd rfl (Or.inl rfl) (pe_op op_sub (pe_op op_shl pe_int (pe_op op_sub (pv 2) pe_int)) pe_int))) pss_nil)
        (pss_one (ps_expr (pe_bm PySem.F.plainAttrs_list PySem.F.slot_list_append PySem.F.type_list_append mt_append (pv 4) (pa_cons (pv 6) pa_nil))))))))
      (pss_one (ps_ret (pv 4)))))), ?_⟩
  have sh : ∀ {σ : L2.St} {G : Hp} {t : TE} {j : Nat}, Ev t σ G (.int (j : Int)) → j ≤ 1000 → Ev (tOp (rI CPow fun i j => .int (i * 2 ^ j.toNat)) (tC (.int 1)) t) σ G (.int (2 ^ j)) := fun h hj => Ev.is (SH.ev_shl1 h hj) (by rw [Int.toNat_natCast, Int.one_mul])
  obtain ⟨hf, hhf⟩ : ∃ hf : Int, (2 : Int) ^ (D - 1) = hf := ⟨_, rfl⟩
  have hfull : (2 : Int) ^ D = 2 * hf := by rw [← hhf, show D = D - 1 + 1 by omega, Int.pow_succ, Nat.add_sub_cancel, Int.mul_comm]
  have hf0 : 0 < hf := by rw [← hhf]; exact Int.pow_pos (by decide)
  rw [hhf] at k
  refine q_asgC (vs := [.int c, .int (n : Int), .int (2 ^ 36)]) (ea_cons (ev_var rfl) (ea_cons (ev_var rfl) (ea_cons (sh (j := 36) ev_c (by decide)) ea_nil))) fun H1 e1 => ⟨c, (n : Int), 2 ^ 36, rfl, by omega, by omega, by decide, by decide, fun pn ns H2 hpn e2 gn hnl hnb => ?_⟩
  refine q_asgL (xs := []) (el_lst ea_nil (by decide)) fun p H3 hp e3 g3 => ?_
  have e12 := e1.trans e2
  show tSeq _ _ _ [some (.int c), some (.int (n : Int)), some (.int (D : Int)), some (.ref pn), some (.ref p), none, none] _
  have hmax : ∀ {σ : L2.St} {G : Hp}, σ[2]? = some (some (.int (D : Int))) → Ev (tOp (rI CPow fun i j => .int (i * 2 ^ j.toNat)) (tC (.int 1)) (tOp (rI0 fun i j => .int (i - j)) (tVar 2) (tC (.int 1)))) σ G (.int hf) := fun h => Ev.is (sh (j := D - 1) (Ev.is (ev_I0 (g := fun i j => .int (i - j)) (ev_var h) ev_c) (congrArg V.int (by omega))) (by omega)) (congrArg V.int hhf)
  refine q_forLn (K := K) (a := pn) (ev_var rfl) (sq_of (e3 _ _ gn)) (fun i σ' H' => ∃ (r : List Int) (z5 z6 : Option V), σ' = [some (.int c), some (.int (n : Int)), some (.int (D : Int)), some (.ref pn), some (.ref p), z5, z6] ∧ Ex H2 H' ∧ H' p = some (.lst (r.map V.int)) ∧ r.length = i ∧ ∀ x ∈ r, -hf ≤ x ∧ x < hf) (fun H4 e4 => ⟨[], none, none, rfl, e3.trans e4, e4 _ _ g3, rfl, fun x hx => by cases hx⟩) (fun i σ' H' _ h => by obtain ⟨_, _, _, _, ex, _⟩ := h; exact sq_of (ex _ _ gn)) ?_ ?_
  · rintro i x σ' H4 hx ⟨r, z5, z6, rfl, ex, gp, hrl, hrb⟩
    obtain ⟨v, hv, hi, rfl⟩ := int_at hx
    have hvb := hnb v (List.mem_of_getElem? hv)
    have fin : ∀ {y : Int} {G : Hp}, -hf ≤ y ∧ y < hf → Ex H4 G → tDrop (tBM K "list" rAppend (tVar 4) (tCons (tVar 6) tNil)) { nx := fun σ' H' => ∃ (r : List Int) (z5 z6 : Option V), σ' = [some (.int c), some (.int (n : Int)), some (.int (D : Int)), some (.ref pn), some (.ref p), z5, z6] ∧ Ex H2 H' ∧ H' p = some (.lst (r.map V.int)) ∧ r.length = i + 1 ∧ ∀ x ∈ r, -hf ≤ x ∧ x < hf, rt := Q } [some (.int c), some (.int (n : Int)), some (.int (D : Int)), some (.ref pn), some (.ref p), some (.int v), some (.int y)] G := fun hy eG => by
      refine s_app (eG _ _ gp) (ev_var rfl) (ev_var rfl) (by rw [List.length_map]; omega) fun H5 e5 => ⟨r ++ [_], _, _, rfl, Ex.mut (ex.trans (eG.trans e5)) hp, by rw [upd_same, List.map_append]; rfl, by rw [List.length_append, hrl]; rfl, fun x hx => ?_⟩
      rcases List.mem_append.mp hx with hx | hx
      · exact hrb x hx
      · rw [List.mem_singleton.mp hx]
        exact hy
    have hm8 : ∀ {σ : L2.St} {G : Hp}, σ[5]? = some (some (.int v)) → ∀ z : Int, EvT (tTest (tOp rEq (tOp (rI (fun _ j => 0 < j) fun i j => .int (i % j)) (tCB (fun xs H Q => (∃ i, xs = [V.int i] ∧ Q (V.int i) H) ∨ ∃ k, xs = [V.bl k] ∧ Q (V.int (if k = true then 1 else 0)) H) (tCons (tVar 5) tNil)) (tC (.int 8))) (tC (.int z)))) σ G (decide (V.int (v % 8) = V.int z)) := fun h z => et_test (ev_eq (ev_I (ev_int1 (ev_var h)) ev_c (by decide)) ev_c rfl)
    refine q_asg (v := .int (v / 8 % 2 ^ D - hf)) (ev_I0 (g := fun i j => .int (i - j)) (ev_I (ev_int1 (ev_I (ev_var rfl) ev_c ⟨by decide, by decide⟩)) (sh (j := D) (ev_var rfl) (by omega)) (by show (0 : Int) < 2 ^ D; omega)) (hmax rfl)) fun H5 e5 => ?_
    have hb1 : -hf ≤ v / 8 % 2 ^ D - hf ∧ v / 8 % 2 ^ D - hf < hf := by
      have h1 := Int.emod_nonneg (v / 8) (show (2 : Int) ^ D ≠ 0 by omega)
      have h2 := Int.emod_lt_of_pos (v / 8) (show (0 : Int) < 2 ^ D by omega)
      omega
    generalize v / 8 % 2 ^ D - hf = y0 at *
    have nxt : ∀ {y : Int} {G : Hp}, -hf ≤ y ∧ y < hf → Ex H4 G → tSeq (tIfS (tTest (tOp rEq (tOp (rI (fun _ j => 0 < j) fun i j => .int (i % j)) (tCB (fun xs H Q => (∃ i, xs = [V.int i] ∧ Q (V.int i) H) ∨ ∃ k, xs = [V.bl k] ∧ Q (V.int (if k = true then 1 else 0)) H) (tCons (tVar 5) tNil)) (tC (.int 8))) (tC (.int 1)))) (tAsg (tOp (rI0 fun i j => V.int (i - j)) (tOp (rI CPow fun i j => V.int (i * 2 ^ j.toNat)) (tC (.int 1)) (tOp (rI0 fun i j => V.int (i - j)) (tVar 2) (tC (.int 1)))) (tC (.int 1))) (gName 6)) tNext) (tDrop (tBM K "list" rAppend (tVar 4) (tCons (tVar 6) tNil))) { nx := fun σ' H' => ∃ (r : List Int) (z5 z6 : Option V), σ' = [some (.int c), some (.int (n : Int)), some (.int (D : Int)), some (.ref pn), some (.ref p), z5, z6] ∧ Ex H2 H' ∧ H' p = some (.lst (r.map V.int)) ∧ r.length = i + 1 ∧ ∀ x ∈ r, -hf ≤ x ∧ x < hf, rt := Q } [some (.int c), some (.int (n : Int)), some (.int (D : Int)), some (.ref pn), some (.ref p), some (.int v), some (.int y)] G := fun hy eG => by
      refine q_when (hm8 rfl 1) (fun hb H6 e6 => ?_) (fun hb H6 e6 => fin hy (eG.trans e6))
      exact s_asg (v := .int (hf - 1)) (ev_I0 (g := fun i j => .int (i - j)) (hmax rfl) ev_c) fun H7 e7 => fin (by omega) (eG.trans (e6.trans e7))
    refine q_when (hm8 rfl 0) (fun hb H6 e6 => ?_) (fun hb H6 e6 => nxt hb1 (e5.trans e6))
    exact s_asg (v := .int (-hf)) (ev_negI (hmax rfl)) fun H7 e7 => nxt (by omega) (e5.trans (e6.trans e7))
  · rintro σ' H4 ⟨r, z5, z6, rfl, ex, gp, hrl, hrb⟩
    rw [List.length_map] at hrl
    exact s_ret (ev_var rfl) fun H5 e5 => k p r H5 (fresh_back e12 hp) (e12.trans (ex.trans e5)) (e5 _ _ gp) (by omega) hrb

-- K14A
/-! ### numbers of whole bytes, the least significant first -/
theorem q_forRv {te : TE} {tu tz : TS} {D : Ends} {σ : L2.St} {H : Hp} {xs : List V} {j : Nat} (h : EvL te σ H xs) (Pv : Addr → Nat → L2.St → Hp → Prop) (h0 : ∀ p H1, H p = none → Ex H H1 → H1 p = some (.lst xs) → Pv p 0 σ H1) (hq : ∀ p i σ H, i ≤ xs.length → Pv p i σ H → SqL K H p xs)
    (hs : ∀ p i x σ H, i < xs.length → xs[xs.length - 1 - i]? = some x → Pv p i σ H → tu { D with nx := Pv p (i + 1), ct := Pv p (i + 1), bk := tz D } (σ.set j (some x)) H) (hd : ∀ p σ H, Pv p xs.length σ H → tz D σ H) : tSeq (tFor (iRev K (tCons te tNil)) (gName j) tu) tz D σ H :=
  h H (Ex.refl H) _ fun p H1 hp e1 g1 => ⟨p, xs, rfl, sq_of g1, for_it (D := { D with nx := tz D }) walk_rev (Pv p) (h0 p H1 hp e1 g1) (fun i σ H hi pv => hq p i σ H hi pv) (fun i x σ H H' hi pv y => by
    obtain ⟨rfl, y⟩ := y
    exact hs p i x σ _ hi y pv) (hd p)⟩
def sp_lowl : Sp := fun vs H Q _ => ∃ (n : Int) (c : Nat), vs = [.int n, .int (c : Int)] ∧ c ≤ 1000 ∧ RetL ((lowB n c).map V.int) H Q
theorem ok_little_bytes (T : TX K mg) : FnOk P w K mg base CX0 1 T.a_little_bytes T.d_little_bytes ["number", "count"] sp_lowl := by
  refine T.F_little_bytes.ok sc_little_bytes (fun vs H Q E h => by obtain ⟨n, c, rfl, _⟩ := h; rfl) (fun cdv A outer s H vs Q E hr h => ?_)
  obtain ⟨n, c, rfl, hc, k⟩ := h
  refine ⟨_, (pss_one (ps_ret (pe_lc (own := [("shift", 2)]) (g := gName 2) (tt := tYes) rfl sc_little_bytes.nd (pi_range3 (by rfl) T.m_range (pa_cons pe_int (pa_cons (pe_op op_mul pe_int (pv 1)) (pa_cons pe_int pa_nil)))) (blkOk_by (N := ["number", "count", "shift"]) (sc := defScope s_little_bytes) (by decide +kernel)) (fun _ _ _ _ _ => pg_name (i := 2) sc_little_bytes.nd rfl (Or.inl rfl)) (fun _ _ _ _ _ => pts_nil) (fun _ _ _ _ _ => (pe_op op_and (pe_op op_shr (pv 0) (pv 2)) pe_int))))), ?_⟩
  refine s_retL (xs := (lowB n c).map V.int) (el_lcC (n := c) _ (ea_cons ev_c (ea_cons (Ev.is (ev_I ev_c (ev_var rfl) (.inl (by decide))) (congrArg V.int (a₂ := ((8 * c : Nat) : Int)) (by omega))) (ea_cons ev_c ea_nil))) (rg8 (by omega)) (by rw [List.length_map, lowB_len]) (by rw [List.length_map, lowB_len]; omega) (fun _ => rfl) fun i H1 e1 hi => ?_) k
  refine ⟨_, at_int (n := n / 2 ^ (8 * i) % 256) (by unfold lowB; rw [List.getElem?_map, List.getElem?_range hi]; rfl), Ev.is (ev_I0 (ev_I (j := ((8 * i : Nat) : Int)) (ev_var rfl) (Ev.is (ev_var rfl) (congrArg V.int (by omega))) (by show (0 : Int) ≤ _; omega)) ev_c) (congrArg V.int ?_)⟩
  rw [Int.toNat_natCast]
  exact bitAnd_maskZ _ 8
theorem ok_law_little (T : TX K mg) : FnOk P w K mg base CX0 1 T.a_law_little T.d_law_little ["value", "many"] sp_lowl := by
  refine T.F_law_little.ok sc_law_little (fun vs H Q E h => by obtain ⟨n, c, rfl, _⟩ := h; rfl) (fun cdv A outer s H vs Q E hr h => ?_)
  obtain ⟨n, c, rfl, hc, k⟩ := h
  refine ⟨_, (pss_one (ps_ret (pe_lc (own := [("k", 2)]) (g := gName 2) (tt := tYes) rfl sc_law_little.nd (pi_range1 (by rfl) T.m_range (pa_cons (pv 1) pa_nil)) (blkOk_by (N := ["value", "many", "k"]) (sc := defScope s_law_little) (by decide +kernel)) (fun _ _ _ _ _ => pg_name (i := 2) sc_law_little.nd rfl (Or.inl rfl)) (fun _ _ _ _ _ => pts_nil) (fun _ _ _ _ _ => (pe_op op_and (pe_op op_shr (pv 0) (pe_op op_mul pe_int (pv 2))) pe_int))))), ?_⟩
  refine s_retL (xs := (lowB n c).map V.int) (el_lcR (n := (c : Int)) _ (ea_cons (ev_var rfl) ea_nil) (by omega) (by rw [List.length_map, lowB_len]; omega) (by rw [List.length_map, lowB_len]; omega) (fun _ => rfl) fun q G eG hq => ?_) k
  rw [List.length_map, lowB_len] at hq
  refine ⟨_, at_int (n := n / 2 ^ (8 * q) % 256) (by unfold lowB; rw [List.getElem?_map, List.getElem?_range hq]; rfl), Ev.is (ev_I0 (ev_I (j := ((8 * q : Nat) : Int)) (ev_var rfl) (Ev.is (ev_I ev_c (ev_var rfl) (.inl (by decide))) (congrArg V.int (by omega))) (by show (0 : Int) ≤ _; omega)) ev_c) (congrArg V.int ?_)⟩
  rw [Int.toNat_natCast]
  exact bitAnd_maskZ _ 8
theorem el_lb {σ : L2.St} {H : Hp} {t1 t2 : TE} {E : XK} {n : Int} {c : Nat} (h1 : Ev t1 σ H (.int n)) (h2 : Ev t2 σ H (.int (c : Int))) (hc : c ≤ 1000) : EvL (tCall sp_lowl [] E (tCons t1 (tCons t2 tNil))) σ H ((lowB n c).map V.int) := el_call (ea_cons h1 (ea_cons h2 ea_nil)) fun G e Q2 q2 _ => ⟨n, c, rfl, hc, q2⟩
/-- a number of so many bytes stands at a place -/
def HasN (ds : List Int) (pos m x : Nat) : Prop := ∀ j, j < m → ds[pos + j]? = some ((x / 2 ^ (8 * j) % 256 : Nat) : Int)
theorem HasN.cut {ds : List Int} {pos m x : Nat} (h : HasN ds pos m x) : (ds.drop pos).take m = (List.range m).map fun j => ((x / 2 ^ (8 * j) % 256 : Nat) : Int) := by
  refine List.ext_getElem? fun j => ?_
  rw [List.getElem?_take, List.getElem?_map]
  by_cases hj : j < m
  · rw [if_pos hj, List.getElem?_drop, h j hj, List.getElem?_range hj]
    rfl
  · rw [if_neg hj, List.getElem?_eq_none (by rw [List.length_range]; omega)]
    rfl
theorem low_nat (v : Int) (m j : Nat) (hj : j < m) : v / 2 ^ (8 * j) % 256 = (((v % 2 ^ (8 * m)).toNat / 2 ^ (8 * j) % 256 : Nat) : Int) := by
  obtain ⟨c, hc⟩ : ∃ c : Int, 2 ^ (8 * j) = c := ⟨_, rfl⟩
  obtain ⟨b, hb⟩ : ∃ b : Int, 2 ^ (8 * (m - 1 - j)) = b := ⟨_, rfl⟩
  have hc0 : 0 < c := by rw [← hc]; exact Int.pow_pos (by decide)
  have hb0 : 0 < b := by rw [← hb]; exact Int.pow_pos (by decide)
  have hM : (2 : Int) ^ (8 * m) = c * (256 * b) := by rw [← hc, ← hb, show 8 * m = 8 * j + (8 + 8 * (m - 1 - j)) by omega, Int.pow_add, Int.pow_add]; rfl
  have h0 := Int.emod_nonneg v (show (2 : Int) ^ (8 * m) ≠ 0 by have := Int.pow_pos (n := 2) (m := 8 * m) (by decide); omega)
  rw [Int.natCast_emod, Int.natCast_ediv, Int.toNat_of_nonneg h0, Int.natCast_pow, hM]
  show v / 2 ^ (8 * j) % 256 = v % (c * (256 * b)) / 2 ^ (8 * j) % 256
  rw [hc]
  have e := Int.emod_add_mul_ediv v (c * (256 * b))
  generalize v / (c * (256 * b)) = q at *
  generalize v % (c * (256 * b)) = r at *
  rw [← e, Int.mul_assoc, Int.add_mul_ediv_left _ _ (show c ≠ 0 by omega), Int.mul_assoc, Int.add_mul_emod_self_left]
theorem HasN.of {ds : List Int} {pos m : Nat} {v : Int} {r : List Int} (h : ds.drop pos = lowB v m ++ r) : HasN ds pos m (v % 2 ^ (8 * m)).toNat := fun j hj => by
  rw [← List.getElem?_drop, h, List.getElem?_append_left (by rw [lowB_len]; exact hj)]
  unfold lowB
  rw [List.getElem?_map, List.getElem?_range hj]
  exact congrArg some (low_nat v m j hj)
theorem HasN.ofN {ds : List Int} {pos m x : Nat} {r : List Int} (h : ds.drop pos = lowB (x : Int) m ++ r) (hx : x < 2 ^ (8 * m)) : HasN ds pos m x := by
  have := HasN.of h
  have e : ((x : Int) % 2 ^ (8 * m)).toNat = x := by
    have h2 : ((2 : Int) ^ (8 * m)) = ((2 ^ (8 * m) : Nat) : Int) := by rw [Int.natCast_pow]; rfl
    rw [h2, ← Int.natCast_emod, Int.toNat_natCast, Nat.mod_eq_of_lt hx]
  rwa [e] at this
theorem or_join8 (a d : Nat) (h : d < 256) : Builtin.bitOr ((a : Int) * 2 ^ (8 : Int).toNat) (d : Int) = ((a * 256 + d : Nat) : Int) := by
  have h1 := _root_.Bits.bitOr_join' (a := (d : Int)) (b := (a : Int)) (k := 8) (by omega) (by show _ < ((2 : Int) ^ 8); have e : ((2 : Int) ^ 8) = 256 := rfl; omega) (by omega)
  have e : (8 : Int).toNat = 8 := rfl
  rw [e, h1]
  have e2 : ((2 : Int) ^ 8) = 256 := rfl
  omega
def sp_lnum (K : PySem.W.Frag) : Sp := fun vs H Q _ => ∃ (p : Addr) (ds : List Int) (pos m x : Nat), vs = [.ref p, .int (pos : Int), .int (m : Int)] ∧ SqL K H p (ds.map V.int) ∧ m ≤ 4 ∧ HasN ds pos m x ∧ x < 2 ^ (8 * m) ∧ RetV (.int (x : Int)) H Q
theorem ok_little_number (T : TX K mg) : FnOk P w K mg base CX0 1 T.a_little_number T.d_little_number ["data", "place", "count"] (sp_lnum K) := by
  refine T.F_little_number.ok sc_little_number (fun vs H Q E h => by obtain ⟨p, ds, pos, m, x, rfl, _⟩ := h; rfl) (fun cdv A outer s H vs Q E hr h => ?_)
  obtain ⟨p, ds, pos, m, x, rfl, hS, hm, hN, hx, k⟩ := h
  refine ⟨_, (pss_cons (ps_set (i := 3) sc_little_number.nd rfl (Or.inl rfl) pe_int)
      (pss_cons (ps_for PassesOwn.never rfl (pi_reversed (by rfl) T.m_reversed (pa_cons (pe_slice (r := rSlL K) sl_list (pv 0) (po_some (pv 1)) (po_some (pe_op op_add (pv 1) (pv 2)))) pa_nil)) (pg_name (i := 4) sc_little_number.nd rfl (Or.inl rfl)) (pss_one (ps_set (i := 3) sc_little_number.nd rfl (Or.inl rfl) (pe_op op_or (pe_op op_shl (pv 3) pe_int) (pv 4)))))
      (pss_one (ps_ret (pv 3))))), ?_⟩
  have hx32 : x < 2 ^ 32 := Nat.lt_of_lt_of_le hx (Nat.pow_le_pow_right (by decide) (by omega))
  have e32 : (2 : Nat) ^ 32 = 4294967296 := rfl
  refine q_asg (v := .int 0) ev_c fun H1 e1 => ?_
  refine q_forRv (xs := ((List.range m).map fun j => ((x / 2 ^ (8 * j) % 256 : Nat) : Int)).map V.int) (EvL.is (el_mid (i := pos) (j := pos + m) (Ev.s (ev_var rfl) (ex_l e1 hS)) (ev_var rfl) (Ev.is (ev_I0 (ev_var rfl) (ev_var rfl)) (congrArg V.int (by omega)))) (by rw [Nat.add_sub_cancel_left, hN.cut])) (fun q i σ' H' => ∃ z : Option V, σ' = [some (.ref p), some (.int (pos : Int)), some (.int (m : Int)), some (.int ((x / 2 ^ (8 * (m - i)) : Nat) : Int)), z] ∧ Ex H H' ∧ H' q = some (.lst (((List.range m).map fun j => ((x / 2 ^ (8 * j) % 256 : Nat) : Int)).map V.int))) (fun q H2 hq e2 g2 => ⟨none, by rw [Nat.sub_zero, Nat.div_eq_of_lt hx]; rfl, e1.trans e2, g2⟩) (fun q i σ' H' _ h => by obtain ⟨_, _, _, g⟩ := h; exact sq_of g) ?_ ?_
  · rintro q i v σ' H2 hi hv ⟨z, rfl, ex, gq⟩
    rw [List.length_map, List.length_map, List.length_range] at hi hv
    rw [List.getElem?_map, List.getElem?_map, List.getElem?_range (by omega)] at hv
    have hv : V.int ((x / 2 ^ (8 * (m - 1 - i)) % 256 : Nat) : Int) = v := Option.some.inj hv
    subst hv
    obtain ⟨kk, hkk⟩ : ∃ kk, m - 1 - i = kk := ⟨_, rfl⟩
    rw [hkk, show m - i = kk + 1 by omega, show m - (i + 1) = kk by omega]
    have hdiv : x / 2 ^ (8 * (kk + 1)) = x / 2 ^ (8 * kk) / 256 := by
      rw [Nat.div_div_eq_div_mul, show 8 * (kk + 1) = 8 * kk + 8 by omega, Nat.pow_add]
    have hyx : x / 2 ^ (8 * kk) ≤ x := Nat.div_le_self ..
    rw [hdiv]
    generalize x / 2 ^ (8 * kk) = y at *
    refine s_asg (v := .int (y : Int)) (Ev.is (ev_I0 (ev_I (ev_var rfl) ev_c (show CPow ((y / 256 : Nat) : Int) 8 from ⟨by decide, by decide, by omega⟩)) (ev_var rfl)) (congrArg V.int ?_)) fun H3 e3 => ⟨_, rfl, ex.trans e3, e3 _ _ gq⟩
    rw [or_join8 _ _ (Nat.mod_lt _ (by decide))]
    omega
  · rintro q σ' H2 ⟨z, rfl, ex, gq⟩
    refine s_ret (v := .int (x : Int)) (Ev.is (ev_var rfl) (congrArg V.int ?_)) fun H3 e3 => k.go (ex.trans e3)
    rw [List.length_map, List.length_map, List.length_range, Nat.sub_self, Nat.mul_zero, Nat.pow_zero, Nat.div_one]
theorem ev_lnum {σ : L2.St} {H : Hp} {t1 t2 t3 : TE} {E : XK} {ds : List Int} {pos m x : Nat} (h1 : EvS K t1 σ H (ds.map V.int)) (h2 : Ev t2 σ H (.int (pos : Int))) (h3 : Ev t3 σ H (.int (m : Int))) (hm : m ≤ 4) (hN : HasN ds pos m x) (hx : x < 2 ^ (8 * m)) : Ev (tCall (sp_lnum K) [] E (tCons t1 (tCons t2 (tCons t3 tNil)))) σ H (.int (x : Int)) := fun H1 e Q q =>
  h1 H1 e _ fun p H2 e2 hp => h2 H2 (e.trans e2) _ fun H3 e3 => h3 H3 ((e.trans e2).trans e3) _ fun H4 e4 => ⟨p, ds, pos, m, x, rfl, ex_l (e3.trans e4) hp, hm, hN, hx, fun H5 e5 => q H5 (((e2.trans e3).trans e4).trans e5)⟩
/-! ### samples -/
def sp_smb : Sp := fun vs H Q _ => ∃ D : Nat, vs = [.int (D : Int)] ∧ RetV (.int (((D + 7) / 8 : Nat) : Int)) H Q
theorem ok_sample_bytes (T : TX K mg) : FnOk P w K mg base CX0 1 T.a_sample_bytes T.d_sample_bytes ["depth"] sp_smb := by
  refine T.F_sample_bytes.ok sc_sample_bytes (fun vs H Q E h => by obtain ⟨n, rfl, _⟩ := h; rfl) (fun cdv A outer s H vs Q E hr h => ?_)
  obtain ⟨D, rfl, k⟩ := h
  refine ⟨_, (pss_one (ps_ret (pe_op op_fdiv (pe_op op_add (pv 0) pe_int) pe_int))), ?_⟩
  exact s_ret (Ev.is (ev_I (ev_I0 (g := fun i j => .int (i + j)) (ev_var rfl) ev_c) ev_c ⟨by decide, by decide⟩) (congrArg V.int (a₂ := (((D + 7) / 8 : Nat) : Int)) (by omega))) fun H2 e2 => k.go e2
theorem ev_smb {σ : L2.St} {H : Hp} {t1 : TE} {E : XK} {D : Nat} (h : Ev t1 σ H (.int (D : Int))) : Ev (tCall sp_smb [] E (tCons t1 tNil)) σ H (.int (((D + 7) / 8 : Nat) : Int)) := ev_call (ea_cons h ea_nil) fun H1 _ Q q _ => ⟨D, rfl, q⟩
/-- what is stored of a sample -/
def stv (D : Nat) (x : Int) : Int := x * 2 ^ (8 * ((D + 7) / 8) - D) + (if (D + 7) / 8 = 1 then 128 else 0)
theorem ev_shlN {σ : L2.St} {H : Hp} {t1 t2 : TE} {x : Int} {j : Nat} (h1 : Ev t1 σ H (.int x)) (h2 : Ev t2 σ H (.int (j : Int))) (hj : j ≤ 1000) (hx : -4294967296 ≤ x ∧ x ≤ 4294967296) : Ev (tOp (rI CPow fun i j => .int (i * 2 ^ j.toNat)) t1 t2) σ H (.int (x * 2 ^ j)) :=
  Ev.is (ev_I h1 h2 (show CPow x (j : Int) from ⟨by omega, by omega, by omega⟩)) (by rw [Int.toNat_natCast])
theorem ev_shrN {σ : L2.St} {H : Hp} {t1 t2 : TE} {x : Int} {j : Nat} (h1 : Ev t1 σ H (.int x)) (h2 : Ev t2 σ H (.int (j : Int))) : Ev (tOp (rI (fun _ j => 0 ≤ j) fun i j => .int (i / 2 ^ j.toNat)) t1 t2) σ H (.int (x / 2 ^ j)) :=
  Ev.is (ev_I h1 h2 (by show (0 : Int) ≤ _; omega)) (by rw [Int.toNat_natCast])
theorem stv_bd {D : Nat} {x : Int} (h4 : 4 ≤ D) (h32 : D ≤ 32) (h1 : -(2 ^ (D - 1)) ≤ x) (h2 : x < 2 ^ (D - 1)) : -4294967296 ≤ x ∧ x ≤ 4294967296 := by
  have h : (2 : Int) ^ (D - 1) ≤ 2 ^ 31 := by
    have := Int.ofNat_le.mpr (Nat.pow_le_pow_right (n := 2) (by decide) (show D - 1 ≤ 31 by omega))
    rwa [Int.natCast_pow, Int.natCast_pow] at this
  have e : (2 : Int) ^ 31 = 2147483648 := rfl
  omega
def sp_rsm (K : PySem.W.Frag) : Sp := fun vs H Q _ => ∃ (p : Addr) (ds r : List Int) (pos D : Nat) (x : Int), vs = [.ref p, .int (pos : Int), .int (((D + 7) / 8 : Nat) : Int), .int (D : Int)] ∧ SqL K H p (ds.map V.int) ∧ 4 ≤ D ∧ D ≤ 32 ∧ ds.drop pos = lowB (stv D x) ((D + 7) / 8) ++ r ∧ -(2 ^ (D - 1)) ≤ x ∧ x < 2 ^ (D - 1) ∧ RetV (.int x) H Q
theorem ok_read_sample (T : TX K mg) : FnOk P w K mg base CX0 2 T.a_read_sample T.d_read_sample ["data", "place", "size", "depth"] (sp_rsm K) := by
  refine T.F_read_sample.ok sc_read_sample (fun vs H Q E h => by obtain ⟨p, ds, r, pos, D, x, rfl, _⟩ := h; rfl) (fun cdv A outer s0 H vs Q E hr h => ?_)
  obtain ⟨p, ds, r, pos, D, x, rfl, hS, h4, h32, hd, hx1, hx2, k⟩ := h
  refine ⟨_, (pss_cons (ps_set (i := 4) sc_read_sample.nd rfl (Or.inl rfl) (pe_call (ok_little_number T) (hr.mono (by decide)) (by rfl) T.g_little_number T.F_little_number.kp T.b_little_number .nil pass0 (pa_cons (pv 0) (pa_cons (pv 1) (pa_cons (pv 2) pa_nil)))))
      (pss_cons (ps_set (i := 5) sc_read_sample.nd rfl (Or.inl rfl) (pe_op op_sub (pe_op op_mul pe_int (pv 2)) (pv 3)))
      (pss_cons (ps_if (pt_cmpR op_ne (pe_op op_and (pv 4) (pe_op op_sub (pe_op op_shl pe_int (pv 5)) pe_int)) pe_int (nomark _)) (pss_one ps_never) pss_nil)
      (pss_cons (ps_if (pt_cmpR op_eq (pv 2) pe_int (nomark _)) (pss_one (ps_ret (pe_op op_shr (pe_op op_sub (pv 4) pe_int) (pv 5)))) pss_nil)
      (pss_cons (ps_if (pt_cmpR op_ge (pv 4) (pe_op op_shl pe_int (pe_op op_sub (pe_op op_mul pe_int (pv 2)) pe_int)) (nomark _)) (pss_one (ps_aug (i := 4) sc_read_sample.nd rfl (Or.inl rfl) (pe_op op_shl pe_int (pe_op op_mul pe_int (pv 2))) ip_sub)) pss_nil)
      (pss_one (ps_ret (pe_op op_shr (pv 4) (pv 5))))))))), ?_⟩
  have hN := HasN.of hd
  obtain ⟨wd, hw⟩ : ∃ wd, (D + 7) / 8 = wd := ⟨_, rfl⟩
  obtain ⟨s, hs⟩ : ∃ s, 8 * wd - D = s := ⟨_, rfl⟩
  have hst : stv D x = x * 2 ^ s + (if wd = 1 then 128 else 0) := by unfold stv; rw [hw, hs]
  rw [hw] at hN
  rw [hst] at hN
  show tSeq _ _ _ [some (.ref p), some (.int (pos : Int)), some (.int (((D + 7) / 8 : Nat) : Int)), some (.int (D : Int)), none, none] _
  rw [hw]
  clear hd hst
  have hw4 : 1 ≤ wd ∧ wd ≤ 4 := by omega
  have hDw : D + s = 8 * wd := by omega
  have hs7 : s ≤ 7 := by omega
  obtain ⟨b, hb⟩ : ∃ b : Int, (2 : Int) ^ s = b := ⟨_, rfl⟩
  obtain ⟨hf, hhf⟩ : ∃ hf : Int, (2 : Int) ^ (D - 1) = hf := ⟨_, rfl⟩
  have hb0 : 0 < b := by rw [← hb]; exact Int.pow_pos (by decide)
  have hhalf : (2 : Int) ^ (8 * wd - 1) = hf * b := by rw [← hhf, ← hb, ← Int.pow_add]; exact congrArg (2 ^ ·) (by omega)
  have hfull : (2 : Int) ^ (8 * wd) = 2 * (hf * b) := by rw [← hhalf, show 8 * wd = 8 * wd - 1 + 1 by omega, Int.pow_succ, Nat.add_sub_cancel, Int.mul_comm]
  rw [hhf] at hx1 hx2
  have hlo : -(hf * b) ≤ x * b := by rw [← Int.neg_mul]; exact Int.mul_le_mul_of_nonneg_right hx1 (by omega)
  have hhi : x * b < hf * b := Int.mul_lt_mul_of_pos_right hx2 hb0
  rw [hb] at hN
  have hM0 : 0 < hf * b := by omega
  have hP4 : 2 * (hf * b) ≤ 4294967296 := by
    rw [← hfull]
    have := Int.ofNat_le.mpr (Nat.pow_le_pow_right (n := 2) (by decide) (show 8 * wd ≤ 32 by omega))
    rw [Int.natCast_pow, Int.natCast_pow] at this
    exact this
  -- the number that is read
  obtain ⟨N, hNe⟩ : ∃ N, ((x * b + if wd = 1 then 128 else 0) % 2 ^ (8 * wd)).toNat = N := ⟨_, rfl⟩
  rw [hNe] at hN
  have hNv : (N : Int) = if wd = 1 then x * b + 128 else if 0 ≤ x then x * b else x * b + 2 * (hf * b) := by
    rw [← hNe, hfull]
    by_cases h1 : wd = 1
    · have h128 : hf * b = 128 := by rw [← hhalf, h1]; rfl
      rw [if_pos h1, if_pos h1, Int.toNat_of_nonneg (Int.emod_nonneg _ (by omega))]
      exact Int.emod_eq_of_lt (by omega) (by omega)
    · rw [if_neg h1, if_neg h1, Int.add_zero, Int.toNat_of_nonneg (Int.emod_nonneg _ (by omega))]
      by_cases h0 : 0 ≤ x
      · have := Int.mul_nonneg h0 (show 0 ≤ b by omega)
        rw [if_pos h0]
        exact Int.emod_eq_of_lt (by omega) (by omega)
      · have : x * b < 0 := Int.mul_neg_of_neg_of_pos (by omega) hb0
        rw [if_neg h0, ← Int.add_mul_emod_self_left (x * b) (2 * (hf * b)) 1, Int.mul_one]
        exact Int.emod_eq_of_lt (by omega) (by omega)
  have hNlt : N < 2 ^ (8 * wd) := by
    rw [← hNe]
    have h1 := Int.emod_lt_of_pos (x * b + if wd = 1 then 128 else 0) (show (0 : Int) < 2 ^ (8 * wd) by omega)
    have h2 : ((2 : Int) ^ (8 * wd)) = ((2 ^ (8 * wd) : Nat) : Int) := by rw [Int.natCast_pow]; rfl
    omega
  have hxb : x * b / b = x := Int.mul_ediv_cancel x (by omega)
  have hdvd : (N : Int) % b = 0 := by
    rw [hNv]
    by_cases h1 : wd = 1
    · have h128 : (128 : Int) = hf * b := by rw [← hhalf, h1]; rfl
      rw [if_pos h1, h128, ← Int.add_mul, Int.mul_emod_left]
    · rw [if_neg h1]
      split
      · exact Int.mul_emod_left ..
      · rw [← Int.mul_assoc, ← Int.add_mul, Int.mul_emod_left]
  refine q_asg (v := .int (N : Int)) (ev_lnum (Ev.s (ev_var rfl) hS) (ev_var rfl) (ev_var rfl) hw4.2 hN hNlt) fun H1 e1 => ?_
  refine q_asg (v := .int (s : Int)) (Ev.is (ev_I0 (g := fun i j => .int (i - j)) (ev_I ev_c (ev_var rfl) (.inl (by decide))) (ev_var rfl)) (congrArg V.int (by omega))) fun H2 e2 => ?_
  have e12 := e1.trans e2
  refine q_when (b := false) (et_is (et_test (ev_ne (x := .int 0) (y := .int 0) (Ev.is (ev_I0 (ev_var rfl) (ev_I0 (g := fun i j => .int (i - j)) (ev_shlN (x := 1) (j := s) ev_c (ev_var rfl) (by omega) (by omega)) ev_c)) (congrArg V.int (by rw [Int.one_mul, bitAnd_maskZ, hb, hdvd]))) ev_c rfl)) rfl) (fun hb => by cases hb) fun _ H3 e3 => ?_
  refine q_when (b := decide (wd = 1)) (et_test (Ev.is (ev_eq (ev_var rfl) ev_c rfl) (congrArg V.bl (by by_cases h : wd = 1 <;> simp [h] <;> omega)))) (fun h1 H4 e4 => ?_) (fun h1 H4 e4 => ?_)
  · have h1 := of_decide_eq_true h1
    refine s_ret (v := .int x) (Ev.is (ev_shrN (x := N - 128) (j := s) (ev_I0 (g := fun i j => .int (i - j)) (ev_var rfl) ev_c) (ev_var rfl)) (congrArg V.int ?_)) fun H5 e5 => k.go (e12.trans (e3.trans (e4.trans e5)))
    rw [hNv, if_pos h1, Int.add_sub_cancel, hb, hxb]
  · have h1 := of_decide_eq_false h1
    rw [if_neg h1] at hNv
    have e14 := e12.trans (e3.trans e4)
    have pw : ∀ {σ : L2.St} {G : Hp} {t : TE} {j : Nat}, Ev t σ G (.int (j : Int)) → j ≤ 1000 → Ev (tOp (rI CPow fun i j => .int (i * 2 ^ j.toNat)) (tC (.int 1)) t) σ G (.int (2 ^ j)) := fun h hj => Ev.is (ev_shlN (x := 1) ev_c h hj (by omega)) (by rw [Int.one_mul])
    refine q_when (b := decide (x < 0)) (et_test (Ev.is (ev_I0 (g := fun i j => .bl (decide (j ≤ i))) (ev_var rfl) (pw (j := 8 * wd - 1) (Ev.is (ev_I0 (g := fun i j => .int (i - j)) (ev_I ev_c (ev_var rfl) (.inl (by decide))) ev_c) (congrArg V.int (by omega))) (by omega))) (congrArg V.bl ?_))) (fun h2 H5 e5 => ?_) (fun h2 H5 e5 => ?_)
    · rw [hhalf, hNv]
      by_cases h0 : 0 ≤ x
      · rw [if_pos h0, decide_eq_false (by omega), decide_eq_false (by omega)]
      · have : x * b < 0 := Int.mul_neg_of_neg_of_pos (by omega) hb0
        rw [if_neg h0, decide_eq_true (by omega), decide_eq_true (by omega)]
    · have h2 := of_decide_eq_true h2
      rw [if_neg (by omega)] at hNv
      refine q_aug (a := (N : Int)) (b := 2 * (hf * b)) rfl (Ev.is (pw (j := 8 * wd) (Ev.is (ev_I ev_c (ev_var rfl) (.inl (by decide))) (congrArg V.int (by omega))) (by omega)) (congrArg V.int hfull)) fun H6 e6 => ?_
      refine s_ret (v := .int x) (Ev.is (ev_shrN (x := N - 2 * (hf * b)) (j := s) (ev_var rfl) (ev_var rfl)) (congrArg V.int ?_)) fun H7 e7 => k.go (e14.trans (e5.trans (e6.trans e7)))
      rw [hNv, Int.add_sub_cancel, hb, hxb]
    · have h2 := of_decide_eq_false h2
      rw [if_pos (by omega)] at hNv
      refine s_ret (v := .int x) (Ev.is (ev_shrN (x := N) (j := s) (ev_var rfl) (ev_var rfl)) (congrArg V.int ?_)) fun H7 e7 => k.go (e14.trans (e5.trans e7))
      rw [hNv, hb, hxb]

-- K14B
/-! ### audio -/
def fsA (x0 x1 x2 : V) : List (Str × V) := [("rate", x0), ("depth", x1), ("channels", x2)]
/-- lists at their addresses -/
def Lists (H : Hp) : List Addr → List (List V) → Prop
  | [], [] => True
  | q :: qs, r :: rs => H q = some (.lst r) ∧ Lists H qs rs
  | _, _ => False
theorem Lists.get {H : Hp} : ∀ {qs : List Addr} {rs : List (List V)}, Lists H qs rs → ∀ (i : Nat) (q : Addr), qs[i]? = some q → ∃ r, rs[i]? = some r ∧ H q = some (.lst r)
  | [], _, _, i, p, hp => by simp at hp
  | q :: ps, f :: fs, h, 0, p, hp => by cases hp; exact ⟨f, rfl, h.1⟩
  | q :: ps, f :: fs, h, i + 1, p, hp => Lists.get h.2 i p hp
  | _ :: _, [], h, _, _, _ => h.elim
theorem Lists.len {H : Hp} : ∀ {qs : List Addr} {rs : List (List V)}, Lists H qs rs → qs.length = rs.length
  | [], [], _ => rfl
  | _ :: _, _ :: _, h => congrArg Nat.succ (Lists.len h.2)
  | [], _ :: _, h => h.elim
  | _ :: _, [], h => h.elim
theorem Lists.rel {H H' : Hp} (e : ∀ q r, H q = some (.lst r) → H' q = some (.lst r)) : ∀ {qs : List Addr} {rs : List (List V)}, Lists H qs rs → Lists H' qs rs
  | [], [], _ => trivial
  | _ :: _, _ :: _, h => ⟨e _ _ h.1, Lists.rel e h.2⟩
  | [], _ :: _, h => h.elim
  | _ :: _, [], h => h.elim
theorem Lists.ex {H H' : Hp} {qs : List Addr} {rs : List (List V)} (h : Lists H qs rs) (e : Ex H H') : Lists H' qs rs := h.rel fun q r g => e _ _ g
theorem LLAt.lists {H0 H : Hp} {D : Addr} : ∀ {qs : List Addr} {rs : List (List V)}, LLAt H0 H D qs rs → Lists H qs rs
  | [], [], _ => trivial
  | _ :: _, _ :: _, h => ⟨h.1.1, LLAt.lists h.2⟩
  | [], _ :: _, h => h.elim
  | _ :: _, [], h => h.elim
theorem lref_at {ps : List Addr} {i : Nat} {x : V} (hx : (ps.map V.ref)[i]? = some x) : ∃ p, ps[i]? = some p ∧ i < ps.length ∧ x = V.ref p := by
  rw [List.getElem?_map] at hx
  cases en : ps[i]? with
  | none => rw [en] at hx; cases hx
  | some n => rw [en] at hx; exact ⟨n, rfl, (List.getElem?_eq_some_iff.mp en).1, (Option.some.inj hx).symm⟩
theorem s_fldLL {σ : L2.St} {H : Hp} {to tv : TE} {a C dx : Addr} {fs : List (Str × V)} {f : Str} {D : Ends} {rs : List (List V)} (c : Cls K C) (hn : NoAttr K C f) (hv : EvLL tv σ H rs) (h : ∀ H1, Ex H H1 → Ev to σ H1 (.ref a)) (hx : H a = some (.ins C dx fs)) (hl : fs.length < 1000)
    (k : ∀ p qs H1, H p = none → Ex H H1 → H1 p = some (.lst (qs.map V.ref)) → LLAt H H1 p qs rs → D.nx σ (upd H1 a (.ins C dx (putF f (.ref p) fs)))) : sFld K to tv f D σ H :=
  hv H (Ex.refl H) _ fun p qs H1 hp e1 g1 hL => h H1 e1 H1 (Ex.refl H1) _ fun H2 e2 => ⟨a, C, dx, fs, rfl, (e1.trans e2) _ _ hx, c, hn, hl, k p qs H2 hp (e1.trans e2) (e2 _ _ g1) (hL.mono fun q o _ g => e2 _ _ g)⟩
theorem LLAt.move {H0 H1 H H' : Hp} {D a : Addr} (hb : ∀ q, q ≠ a → H1 q = none → H0 q = none) (ha : H1 a ≠ none) (hm : ∀ q o, q ≠ a → H q = some o → H' q = some o) : ∀ {qs : List Addr} {rs : List (List V)}, LLAt H1 H D qs rs → LLAt H0 H' D qs rs
  | [], [], _ => trivial
  | q :: _, _ :: _, h => ⟨⟨hm q _ (by rintro rfl; exact ha h.1.2.1) h.1.1, hb q (by rintro rfl; exact ha h.1.2.1) h.1.2.1, h.1.2.2⟩, LLAt.move hb ha hm h.2⟩
  | [], _ :: _, h => h.elim
  | _ :: _, [], h => h.elim
def sp_ainit (C : Addr) : Sp := fun vs H Q _ => ∃ (a dx c : Addr) (x0 x1 : V) (ls : List Addr) (rs : List (List V)), vs = [.ref a, x0, x1, .ref c] ∧ H a = some (.ins C dx []) ∧ H c = some (.lst (ls.map V.ref)) ∧ Lists H ls rs ∧ rs.length ≤ 1000 ∧ ∀ H' p qs, FrO a H H' → H' a = some (.ins C dx (fsA x0 x1 (.ref p))) → H p = none → H' p = some (.lst (qs.map V.ref)) → LLAt H H' p qs rs → Q .non H'
theorem ok_Audio_init (T : TX K mg) : FnOk P w K mg base CX0 1 T.a_Audio_init T.d_Audio_init ["self", "rate", "depth", "channels"] (sp_ainit T.C_Audio) := by
  refine T.F_Audio_init.ok sc_Audio_init (fun vs H Q E h => by obtain ⟨a, dx, c, x0, x1, ls, rs, rfl, _⟩ := h; rfl) (fun cdv A outer s H vs Q E hr h => ?_)
  obtain ⟨a, dx, c, x0, x1, ls, rs, rfl, ha, hc, hL, hl, k⟩ := h
  refine ⟨_, (pss_cons (ps_fld (pv 0) (pv 1) rfl)
      (pss_cons (ps_fld (pv 0) (pv 2) rfl)
      (pss_one (ps_fld (pv 0) (pe_lc (own := [("channel", 4)]) (g := gName 4) (tt := tYes) rfl sc_Audio_init.nd (pi_list (pv 3)) (blkOk_by (N := ["self", "rate", "depth", "channels", "channel"]) (sc := defScope s_Audio_init) (by decide +kernel)) (fun _ _ _ _ _ => pg_name (i := 4) sc_Audio_init.nd rfl (Or.inl rfl)) (fun _ _ _ _ _ => pts_nil) (fun _ _ _ _ _ => (pe_callTy (r := rListS K) call_list_of (by rfl) T.m_list PyProof.Rows.boot_list (pa_cons (pv 4) pa_nil)))) rfl)))), ?_⟩
  have na : ∀ {q : Addr} {r : List V}, H q = some (.lst r) → q ≠ a := fun {q r} g => by rintro rfl; rw [ha] at g; cases g
  refine q_fld T.cl_Audio T.n_Audio_rate (v := x0) (ev_var rfl) (ev_var rfl) ha (by decide) fun H1 e1 => ?_
  refine q_fld T.cl_Audio T.n_Audio_depth (v := x1) (ev_var rfl) (ev_var rfl) upd_same (Nat.le_of_ble_eq_true rfl) fun H2 e2 => ?_
  have f2 := fun o => ((FrO.ex (a := a) e1).upd.trans (FrO.ex e2)).upd (o := o)
  have hL2 := hL.rel fun q r g => f2 (.ins T.C_Audio dx (putF "depth" x1 (putF "rate" x0 []))) q _ (na g) g
  have hc2 := f2 (.ins T.C_Audio dx (putF "depth" x1 (putF "rate" x0 []))) c _ (na hc) hc
  refine s_fldLL (rs := rs) T.cl_Audio T.n_Audio_channels (ll_lc (K := K) rs (Ev.s (ev_var rfl) (sq_of hc2)) (by rw [List.length_map, hL.len]) (by omega) (fun _ => rfl) fun i x G eG hx => ?_) (fun _ _ => ev_var rfl) upd_same (Nat.le_of_ble_eq_true rfl) fun p qs H3 hp e3 g3 hL3 => ?_
  · obtain ⟨q, hq, hi, rfl⟩ := lref_at hx
    obtain ⟨r, hr, gq⟩ := hL2.get i q hq
    exact ⟨r, hr, el_of (K := K) (Ev.s (ev_var rfl) (sq_of (eG _ _ gq)))⟩
  have hpa : p ≠ a := by rintro rfl; rw [upd_same] at hp; cases hp
  have bk : ∀ q, q ≠ a → (upd H2 a (.ins T.C_Audio dx (putF "depth" x1 (putF "rate" x0 [])))) q = none → H q = none := fun q hq hn => by
    cases h : H q with
    | none => rfl
    | some o => rw [f2 _ q o hq h] at hn; cases hn
  refine k _ p qs ((f2 _).trans (FrO.ex e3)).upd upd_same (bk p hpa hp) (by rw [upd_ne hpa]; exact g3) ?_
  exact hL3.move bk (by rw [upd_same]; exact fun z => by cases z) fun q o hq g => by rw [upd_ne hq]; exact g

/-! ### audio of rows -/
def AudAt (C : Addr) (H : Hp) (a : Addr) (rate D : Nat) (rs : List (List Int)) : Prop := ∃ (dx p : Addr) (qs : List Addr), H a = some (.ins C dx (fsA (.int (rate : Int)) (.int (D : Int)) (.ref p))) ∧ H p = some (.lst (qs.map V.ref)) ∧ RwAt H qs rs
theorem AudAt.ex {C : Addr} {H H1 : Hp} {a : Addr} {rate D : Nat} {rs : List (List Int)} (h : AudAt C H a rate D rs) (e : Ex H H1) : AudAt C H1 a rate D rs := by
  obtain ⟨dx, p, qs, h1, h2, h3⟩ := h
  exact ⟨dx, p, qs, e _ _ h1, e _ _ h2, h3.ex e⟩
theorem rw_lists {H : Hp} : ∀ {qs : List Addr} {rs : List (List Int)}, RwAt H qs rs → Lists H qs (rs.map fun r => r.map V.int)
  | [], [], _ => trivial
  | q :: qs, r :: rs, h => ⟨h.2 0 q r rfl rfl, rw_lists ⟨by have := h.1; simpa using this, fun j b q h1 h2 => h.2 (j + 1) b q h1 h2⟩⟩
  | [], _ :: _, h => by have := h.1; simp at this
  | _ :: _, [], h => by have := h.1; simp at this
theorem lists_rw {H : Hp} {qs : List Addr} {rs : List (List Int)} (h : Lists H qs (rs.map fun r => r.map V.int)) : RwAt H qs rs := ⟨by have := h.len; rwa [List.length_map] at this, fun j a r h1 h2 => by
  obtain ⟨r', h3, h4⟩ := h.get j a h1
  rw [List.getElem?_map, h2] at h3
  cases h3
  exact h4⟩
def ChAt (rs : List (List Int)) : V → Hp → Prop := fun v G => ∃ (c : Addr) (qs : List Addr), v = .ref c ∧ G c = some (.lst (qs.map V.ref)) ∧ RwAt G qs rs
theorem ChAt.up (rs : List (List Int)) : Up (ChAt rs) := fun v H H' e ⟨c, qs, h1, h2, h3⟩ => ⟨c, qs, h1, e _ _ h2, h3.ex e⟩
theorem en_aud (T : TX K mg) {σ : L2.St} {H : Hp} {t1 t2 t3 : TE} {E : XK} {rate D : Nat} {rs : List (List Int)} (h1 : Ev t1 σ H (.int (rate : Int))) (h2 : Ev t2 σ H (.int (D : Int))) (h3 : EvX t3 σ H (ChAt rs)) (hl : rs.length ≤ 1000) : EvN (tMake T.C_Audio (sp_ainit T.C_Audio) [] E (tCons t1 (tCons t2 (tCons t3 tNil)))) σ H (fun a G => AudAt T.C_Audio G a rate D rs) :=
  en_makeAP (ap_ev h1 (ap_ev h2 (ap_x h3 (ChAt.up rs) ap_nil))) fun vs a dx H1 Q E eH hG ha kk => by
    obtain ⟨G, eG, r1, rfl, r2, rfl, v, r3, rfl, hC, rfl⟩ := hG
    obtain ⟨c, qs, rfl, hc, hR⟩ := ChAt.up rs _ _ _ eG hC
    exact ⟨a, dx, c, _, _, qs, _, rfl, ha, hc, rw_lists hR, by rw [List.length_map]; exact hl, fun H' p qs' hF hA hp hq hL => kk H' hF ⟨dx, p, qs', hA, hq, lists_rw hL.lists⟩⟩
def sp_aeq (C : Addr) : Sp := fun vs H Q _ => ∃ (a b : Addr) (rate D : Nat) (rs : List (List Int)), vs = [.ref a, .ref b] ∧ AudAt C H a rate D rs ∧ AudAt C H b rate D rs ∧ RetV (.bl true) H Q
theorem ok_Audio_eq (T : TX K mg) : FnOk P w K mg base CX0 1 T.a_Audio_eq T.d_Audio_eq ["self", "other"] (sp_aeq T.C_Audio) := by
  refine T.F_Audio_eq.ok sc_Audio_eq (fun vs H Q E h => by obtain ⟨a, b, rate, D, rs, rfl, _⟩ := h; rfl) (fun cdv A outer s H vs Q E hr h => ?_)
  obtain ⟨a, b, rate, D, rs, rfl, ⟨dx, p, qs, ga, gp, hR⟩, ⟨dx2, p2, qs2, gb, gp2, hR2⟩, k⟩ := h
  refine ⟨_, (pss_one (ps_ret (pe_and (pe_callB (r := rIsi K) call_isi (by rfl) T.m_isinstance PyProof.Rows.boot_isinstance (pa_cons (pv 1) (pa_cons (pe_glob (v := V.ref T.C_Audio) (by rfl) T.g_Audio rfl) pa_nil))) (pe_and (pe_cmpR op_eq (pe_fld (pv 0) rfl) (pe_fld (pv 1) rfl) (nomark _)) (pe_and (pe_cmpR op_eq (pe_fld (pv 0) rfl) (pe_fld (pv 1) rfl) (nomark _)) (pe_one (pe_cmpR (op_eqD (hu64 hr)) (pe_fld (pv 0) rfl) (pe_fld (pv 1) rfl) (nomark _)))))))), ?_⟩
  refine s_ret (v := .bl true) (Ev.is (ev_andV (ev_isiO (ev_var rfl) (T.ty_Audio.ins T.cl_Audio gb) T.ki_Audio_Audio) fun _ => ev_andV (ev_eq (ev_fld T.cl_Audio T.n_Audio_rate (ev_var rfl) ga rfl) (ev_fld T.cl_Audio T.n_Audio_rate (ev_var rfl) gb rfl) rfl) fun _ => ev_andV (ev_eq (ev_fld T.cl_Audio T.n_Audio_depth (ev_var rfl) ga rfl) (ev_fld T.cl_Audio T.n_Audio_depth (ev_var rfl) gb rfl) rfl) fun _ => ev_eqDD (d := rwsD rs) (EvD.of (ev_fld T.cl_Audio T.n_Audio_channels (ev_var rfl) ga rfl) (.lst (sq_of gp) (dp_rws hR))) (EvD.of (ev_fld T.cl_Audio T.n_Audio_channels (ev_var rfl) gb rfl) (.lst (sq_of gp2) (dp_rws hR2))) (shaped_rws rs)) (by rw [decide_eq_true rfl, decide_eq_true rfl]; rfl)) fun H1 e1 => k.go e1
def sp_leq (C : Addr) : Sp := fun vs H Q _ => ∃ (a c : Addr) (qs : List Addr) (rate D : Nat) (rs : List (List Int)), vs = [.ref a, .int (rate : Int), .int (D : Int), .ref c] ∧ AudAt C H a rate D rs ∧ H c = some (.lst (qs.map V.ref)) ∧ RwAt H qs rs ∧ rs.length ≤ 1000 ∧ (∀ r ∈ rs, r.length ≤ 1000) ∧ RetV (.bl true) H Q
theorem ok_law_equal (T : TX K mg) : FnOk P w K mg base CX0 3 T.a_law_equal T.d_law_equal ["audio", "rate", "depth", "channels"] (sp_leq T.C_Audio) := by
  refine T.F_law_equal.ok sc_law_equal (fun vs H Q E h => by obtain ⟨a, c, qs, rate, D, rs, rfl, _⟩ := h; rfl) (fun cdv A outer s H vs Q E hr h => ?_)
  obtain ⟨a, c, qs, rate, D, rs, rfl, hA, gc, hR, hl, hlr, k⟩ := h
  refine ⟨_, (pss_cons (ps_if (PW.pt (pw_or (pt_cmpR op_ne (pe_fld (pv 0) rfl) (pv 1) (nomark _)) (pw_or (pt_cmpR op_ne (pe_fld (pv 0) rfl) (pv 2) (nomark _)) (pw_or1 (pt_cmpR op_ne (pe_callB (r := rLenS K) call_len_seq (by rfl) T.m_len PySem.boot_len (pa_cons (pe_fld (pv 0) rfl) pa_nil)) (pe_callB (r := rLenS K) call_len_seq (by rfl) T.m_len PySem.boot_len (pa_cons (pv 3) pa_nil)) (nomark _)))))) (pss_one (ps_ret pe_bl)) pss_nil)
      (pss_cons (ps_for PassesOwn.never rfl (pi_range1 (by rfl) T.m_range (pa_cons (pe_callB (r := rLenS K) call_len_seq (by rfl) T.m_len PySem.boot_len (pa_cons (pv 3) pa_nil)) pa_nil)) (pg_name (i := 4) sc_law_equal.nd rfl (Or.inl rfl)) (pss_one (ps_if (pt_not (pt_val (pe_call (ok_law_same T) (hr.mono (by decide)) (by rfl) T.g_law_same T.F_law_same.kp T.b_law_same .nil pass0 (pa_cons (pe_ix (r := rIxL K) ix_list (pe_fld (pv 0) rfl) (pv 4) (fun _ _ => rfl)) (pa_cons (pe_ix (r := rIxL K) ix_list (pv 3) (pv 4) (fun _ _ => rfl)) pa_nil))))) (pss_one (ps_ret pe_bl)) pss_nil)))
      (pss_one (ps_ret (pe_and (pe_cmpR (op_eqO (ok_Audio_eq T) T.me_Audio_eq.at_ T.me_Audio_eq.fn T.b_Audio_eq pass0 (hr.mono (by decide))) (pv 0) (pe_make T.M_Audio (ok_Audio_init T) (hr.mono (by decide)) (by rfl) T.g_Audio T.b_Audio_init .nil pass0 (pa_cons (pv 1) (pa_cons (pv 2) (pa_cons (pv 3) pa_nil)))) (nomark _)) (pe_one (pe_callB (r := rIsi K) call_isi (by rfl) T.m_isinstance PyProof.Rows.boot_isinstance (pa_cons (pv 0) (pa_cons (pe_glob (v := V.ref T.C_Audio) (by rfl) T.g_Audio rfl) pa_nil))))))))), ?_⟩
  obtain ⟨dx, p, qa, ga, gp, hRa⟩ := id hA
  refine q_when (b := false) (et_is (et_or (a := false) (b := false) (et_is (et_test (ev_ne (ev_fld T.cl_Audio T.n_Audio_rate (ev_var rfl) ga rfl) (ev_var rfl) rfl)) (by rw [decide_eq_true rfl]; rfl)) fun _ => et_or (a := false) (b := false) (et_is (et_test (ev_ne (ev_fld T.cl_Audio T.n_Audio_depth (ev_var rfl) ga rfl) (ev_var rfl) rfl)) (by rw [decide_eq_true rfl]; rfl)) fun _ => et_is (et_test (ev_ne (x := .int (rs.length : Int)) (y := .int (rs.length : Int)) (Ev.is (ev_lenS (K := K) (Ev.s (ev_fld T.cl_Audio T.n_Audio_channels (ev_var rfl) ga rfl) (sq_of gp))) (by rw [List.length_map, hRa.1])) (Ev.is (ev_lenS (K := K) (Ev.s (ev_var rfl) (sq_of gc))) (by rw [List.length_map, hR.1])) rfl)) (by rw [decide_eq_true rfl]; rfl)) rfl) (fun hb => by cases hb) fun _ H1 e1 => ?_
  refine q_forR1 (n := (rs.length : Int)) (ea_cons (Ev.is (ev_lenS (K := K) (Ev.s (ev_var rfl) (sq_of (e1 _ _ gc)))) (by rw [List.length_map, hR.1])) ea_nil) (by omega) (fun i σ' H' => ∃ z : Option V, σ' = [some (.ref a), some (.int (rate : Int)), some (.int (D : Int)), some (.ref c), z] ∧ Ex H H') (fun H2 e2 => ⟨none, rfl, e1.trans e2⟩) ?_ ?_
  · rintro i σ' H2 hi ⟨z, rfl, ex⟩
    have hri : rs[i]? = some (rs[i]'(by omega)) := List.getElem?_eq_getElem _
    have hq1 : qa[i]? = some (qa[i]'(by have := hRa.1; omega)) := List.getElem?_eq_getElem _
    have hq2 : qs[i]? = some (qs[i]'(by have := hR.1; omega)) := List.getElem?_eq_getElem _
    have g1 := ex _ _ (hRa.2 i _ _ hq1 hri)
    have g2 := ex _ _ (hR.2 i _ _ hq2 hri)
    have hll := hlr _ (List.mem_of_getElem? hri)
    generalize rs[i]'(by omega) = r at *
    generalize qa[i]'(by have := hRa.1; omega) = b1 at *
    generalize qs[i]'(by have := hR.1; omega) = b2 at *
    exact s_when (b := false) (et_is (et_not (et_B (ev_same (Ev.r (ev_at (K := K) (n := (i : Int)) (v := .ref b1) (Ev.s (ev_fld T.cl_Audio T.n_Audio_channels (ev_var rfl) (ex _ _ ga) rfl) (sq_of (ex _ _ gp))) (ev_var rfl) (at_of (j := i) rfl (by rw [List.getElem?_map, hq1]; rfl))) g1) (Ev.r (ev_at (K := K) (n := (i : Int)) (v := .ref b2) (Ev.s (ev_var rfl) (sq_of (ex _ _ gc))) (ev_var rfl) (at_of (j := i) rfl (by rw [List.getElem?_map, hq2]; rfl))) g2) (by omega)))) rfl) (fun hb => by cases hb) fun _ H3 e3 => ⟨_, rfl, ex.trans e3⟩
  · rintro σ' H2 ⟨z, rfl, ex⟩
    refine s_ret (v := .bl true) (Ev.is (ev_andV (ev_eqX (b := true) (S := fun v G => v = .ref a ∧ AudAt T.C_Audio G a rate D rs) (S2 := fun v G => ∃ b, v = .ref b ∧ AudAt T.C_Audio G b rate D rs) (Ev.x (ev_var rfl) fun G eG => ⟨rfl, hA.ex (ex.trans eG)⟩) (fun v G G' e h => ⟨h.1, h.2.ex e⟩) (EvN.x (en_aud T (ev_var rfl) (ev_var rfl) (Ev.x (ev_var rfl) fun G eG => ⟨c, qs, rfl, (ex.trans eG) _ _ gc, hR.ex (ex.trans eG)⟩) hl) fun b G eG hb => ⟨b, rfl, hb⟩) (fun x y G eG hx hy => ?_)) fun _ => ev_isiO (ev_var rfl) (T.ty_Audio.ins T.cl_Audio (ex _ _ ga)) T.ki_Audio_Audio) rfl) fun H3 e3 => k.go (ex.trans e3)
    obtain ⟨rfl, h1⟩ := hx
    obtain ⟨b, rfl, h2⟩ := hy
    obtain ⟨dx1, p1, qs1, g1, _⟩ := id h1
    obtain ⟨dx2, p2, qs2, g2, _⟩ := id h2
    exact ⟨a, dx1, _, .ref T.C_Audio, rfl, g1, T.ty_Audio.ins T.cl_Audio g2 _ (Ex.refl _), T.nf_Audio_Audio, fun H1 e Q q E => ⟨a, b, rate, D, rs, rfl, h1.ex e, h2.ex e, q⟩⟩
/-! ### chunks -/
theorem el_ofP {σ : L2.St} {H : Hp} {te : TE} {t : Addr} {xs : List V} (h : Ev te σ H (.ref t)) (hT : SqT K H t xs) : EvL (tCB (rListS K) (tCons te tNil)) σ H xs := fun H1 e Q q =>
  h H1 e _ fun H2 e2 => ⟨t, xs, rfl, .inr (ex_t (e.trans e2) hT), fun l hl => q l _ (fresh_back e2 hl) (e2.trans (Ex.new hl)) upd_same⟩
theorem ev_lenP {σ : L2.St} {H : Hp} {te : TE} {t : Addr} {xs : List V} (h : Ev te σ H (.ref t)) (hT : SqT K H t xs) : Ev (tCB (rLenS K) (tCons te tNil)) σ H (.int (xs.length : Int)) := fun H1 e Q q =>
  h H1 e _ fun H2 e2 => ⟨t, xs, rfl, .inr (ex_t (e.trans e2) hT), q H2 e2⟩
def chB (nm ds : List Int) : List Int := nm ++ (lowB (ds.length : Int) 4 ++ (ds ++ List.replicate (ds.length % 2) 0))
theorem chB_len (nm ds : List Int) : (chB nm ds).length = nm.length + 4 + ds.length + ds.length % 2 := by
  unfold chB
  rw [List.length_append, List.length_append, List.length_append, lowB_len, List.length_replicate]
  omega
theorem int_rep (n : Nat) (x : Int) : (List.replicate n x).map V.int = List.replicate n (V.int x) := List.map_replicate ..
def sp_chk (K : PySem.W.Frag) : Sp := fun vs H Q _ => ∃ (t p : Addr) (nm ds : List Int), vs = [.ref t, .ref p] ∧ SqT K H t (nm.map V.int) ∧ H p = some (.lst (ds.map V.int)) ∧ nm.length ≤ 100 ∧ ds.length ≤ 10000 ∧ RetL ((chB nm ds).map V.int) H Q
theorem ok_chunk (T : TX K mg) : FnOk P w K mg base CX0 2 T.a_chunk T.d_chunk ["name", "content"] (sp_chk K) := by
  refine T.F_chunk.ok sc_chunk (fun vs H Q E h => by obtain ⟨t, p, nm, ds, rfl, _⟩ := h; rfl) (fun cdv A outer s H vs Q E hr h => ?_)
  obtain ⟨t, p, nm, ds, rfl, hT, gp, hn, hd, k⟩ := h
  refine ⟨_, (pss_one (ps_ret (pe_op op_cat (pe_op op_cat (pe_op op_cat (pe_callTy (r := rListS K) call_list_of (by rfl) T.m_list PyProof.Rows.boot_list (pa_cons (pv 0) pa_nil)) (pe_call (ok_little_bytes T) (hr.mono (by decide)) (by rfl) T.g_little_bytes T.F_little_bytes.kp T.b_little_bytes .nil pass0 (pa_cons (pe_callB (r := rLenS K) call_len_seq (by rfl) T.m_len PySem.boot_len (pa_cons (pv 1) pa_nil)) (pa_cons pe_int pa_nil)))) (pv 1)) (pe_op op_rep (pe_lst (pa_cons pe_int pa_nil)) (pe_op op_mod (pe_callB (r := rLenS K) call_len_seq (by rfl) T.m_len PySem.boot_len (pa_cons (pv 1) pa_nil)) pe_int))))), ?_⟩
  have len : ∀ {σ : L2.St} {G : Hp}, σ[1]? = some (some (.ref p)) → Ex H G → Ev (tCB (rLenS K) (tCons (tVar 1) tNil)) σ G (.int (ds.length : Int)) := fun h e => Ev.is (ev_lenS (K := K) (Ev.s (ev_var h) (sq_of (e _ _ gp)))) (by rw [List.length_map])
  refine s_retL (EvL.is (el_cat (EvL.r (el_cat (EvL.r (el_cat (EvL.r (el_ofP (ev_var rfl) hT)) (EvL.r (el_lb (c := 4) (len rfl (Ex.refl H)) ev_c (by decide))) (by rw [List.length_map, List.length_map, lowB_len]; omega))) (Ev.r (ev_var rfl) gp) (by rw [List.length_append, List.length_map, List.length_map, List.length_map, lowB_len]; omega))) (EvL.r (el_rep (xs := [.int 0]) (k := ((ds.length % 2 : Nat) : Int)) (EvL.r (el_lst (ea_cons ev_c ea_nil) (by decide))) (Ev.is (ev_I (len rfl (Ex.refl H)) ev_c (by decide)) (congrArg V.int (by omega))) ⟨by omega, by omega⟩ (by show 1 * _ ≤ _; omega))) (by rw [List.length_append, List.length_append, List.length_map, List.length_map, List.length_map, lowB_len, Int.toNat_natCast, rep_one, List.length_replicate]; omega)) ?_) k
  rw [Int.toNat_natCast, rep_one]
  unfold chB
  rw [List.map_append, List.map_append, List.map_append, int_rep, List.append_assoc, List.append_assoc]
theorem el_chk {σ : L2.St} {H : Hp} {t1 t2 : TE} {E : XK} {t : Addr} {nm ds : List Int} (h1 : Ev t1 σ H (.ref t)) (hT : SqT K H t (nm.map V.int)) (h2 : EvR t2 σ H (ds.map V.int)) (hn : nm.length ≤ 100) (hd : ds.length ≤ 10000) : EvL (tCall (sp_chk K) [] E (tCons t1 (tCons t2 tNil))) σ H ((chB nm ds).map V.int) := fun H1 e Q q =>
  h1 H1 e _ fun H2 e2 => h2 H2 (e.trans e2) _ fun p H3 e3 g => ⟨t, p, nm, ds, rfl, ex_t ((e.trans e2).trans e3) hT, g, hn, hd, fun r H4 hr e4 g4 => q r H4 (fresh_back (e2.trans e3) hr) ((e2.trans e3).trans e4) g4⟩
def sp_lchk : Sp := fun vs H Q _ => ∃ (t p : Addr) (nm ds : List Int), vs = [.ref t, .ref p] ∧ H t = some (.lst (nm.map V.int)) ∧ H p = some (.lst (ds.map V.int)) ∧ nm.length ≤ 100 ∧ ds.length ≤ 10000 ∧ RetL ((chB nm ds).map V.int) H Q
theorem ok_law_chunk (T : TX K mg) : FnOk P w K mg base CX0 2 T.a_law_chunk T.d_law_chunk ["name", "content"] sp_lchk := by
  refine T.F_law_chunk.ok sc_law_chunk (fun vs H Q E h => by obtain ⟨t, p, nm, ds, rfl, _⟩ := h; rfl) (fun cdv A outer s H vs Q E hr h => ?_)
  obtain ⟨t, p, nm, ds, rfl, hT, gp, hn, hd, k⟩ := h
  refine ⟨_, (pss_one (ps_ret (pe_op op_cat (pe_op op_cat (pe_op op_cat (pv 0) (pe_call (ok_law_little T) (hr.mono (by decide)) (by rfl) T.g_law_little T.F_law_little.kp T.b_law_little .nil pass0 (pa_cons (pe_callB (r := rLenS K) call_len_seq (by rfl) T.m_len PySem.boot_len (pa_cons (pv 1) pa_nil)) (pa_cons pe_int pa_nil)))) (pv 1)) (pe_op op_rep (pe_lst (pa_cons pe_int pa_nil)) (pe_op op_mod (pe_callTy call_int1 (by rfl) T.m_int PyProof.Rows.boot_int (pa_cons (pe_callB (r := rLenS K) call_len_seq (by rfl) T.m_len PySem.boot_len (pa_cons (pv 1) pa_nil)) pa_nil)) pe_int))))), ?_⟩
  have len : ∀ {σ : L2.St} {G : Hp}, σ[1]? = some (some (.ref p)) → Ex H G → Ev (tCB (rLenS K) (tCons (tVar 1) tNil)) σ G (.int (ds.length : Int)) := fun h e => Ev.is (ev_lenS (K := K) (Ev.s (ev_var h) (sq_of (e _ _ gp)))) (by rw [List.length_map])
  refine s_retL (EvL.is (el_cat (EvL.r (el_cat (EvL.r (el_cat (Ev.r (ev_var rfl) hT) (EvL.r (el_lb (c := 4) (len rfl (Ex.refl H)) ev_c (by decide))) (by rw [List.length_map, List.length_map, lowB_len]; omega))) (Ev.r (ev_var rfl) gp) (by rw [List.length_append, List.length_map, List.length_map, List.length_map, lowB_len]; omega))) (EvL.r (el_rep (xs := [.int 0]) (k := ((ds.length % 2 : Nat) : Int)) (EvL.r (el_lst (ea_cons ev_c ea_nil) (by decide))) (Ev.is (ev_I (ev_int1 (len rfl (Ex.refl H))) ev_c (by decide)) (congrArg V.int (by omega))) ⟨by omega, by omega⟩ (by show 1 * _ ≤ _; omega))) (by rw [List.length_append, List.length_append, List.length_map, List.length_map, List.length_map, lowB_len, Int.toNat_natCast, rep_one, List.length_replicate]; omega)) ?_) k
  rw [Int.toNat_natCast, rep_one]
  unfold chB
  rw [List.map_append, List.map_append, List.map_append, int_rep, List.append_assoc, List.append_assoc]
theorem el_lchk {σ : L2.St} {H : Hp} {t1 t2 : TE} {E : XK} {nm ds : List Int} (h1 : EvR t1 σ H (nm.map V.int)) (h2 : EvR t2 σ H (ds.map V.int)) (hn : nm.length ≤ 100) (hd : ds.length ≤ 10000) : EvL (tCall sp_lchk [] E (tCons t1 (tCons t2 tNil))) σ H ((chB nm ds).map V.int) := fun H1 e Q q =>
  h1 H1 e _ fun t H2 e2 gt => h2 H2 (e.trans e2) _ fun p H3 e3 g => ⟨t, p, nm, ds, rfl, e3 _ _ gt, g, hn, hd, fun r H4 hr e4 g4 => q r H4 (fresh_back (e2.trans e3) hr) ((e2.trans e3).trans e4) g4⟩

-- K14C
/-! ### the format chunk -/
def sgnB : List Int := [1, 0, 0, 0, 0, 0, 16, 0, 128, 0, 0, 170, 0, 56, 155, 113]
def pln (D cn : Nat) : Bool := decide (D % 8 = 0) && decide (cn ≤ 2)
def tagN (D cn : Nat) : Nat := if pln D cn = true then 1 else 65534
def endB (D cn : Nat) : List Int := if pln D cn = true then [] else lowB 22 2 ++ (lowB (D : Int) 2 ++ (lowB 0 4 ++ sgnB))
def frmB (rate D cn : Nat) : List Int := lowB (tagN D cn : Int) 2 ++ (lowB (cn : Int) 2 ++ (lowB (rate : Int) 4 ++ (lowB ((rate * cn * ((D + 7) / 8) : Nat) : Int) 4 ++ (lowB ((cn * ((D + 7) / 8) : Nat) : Int) 2 ++ (lowB ((8 * ((D + 7) / 8) : Nat) : Int) 2 ++ endB D cn)))))
theorem endB_len (D cn : Nat) : (endB D cn).length = if pln D cn = true then 0 else 24 := by
  unfold endB
  cases pln D cn with
  | true => rfl
  | false => rfl
theorem frmB_len (rate D cn : Nat) : (frmB rate D cn).length = if pln D cn = true then 16 else 40 := by
  unfold frmB
  simp only [List.length_append, lowB_len, endB_len]
  split <;> rfl
theorem ev_pln {σ : L2.St} {H : Hp} {ta tb : TE} {D cn : Nat} (h1 : Ev ta σ H (.int (D : Int))) (h2 : Ev tb σ H (.int (cn : Int))) : Ev (tAndV (tOp rEq (tOp (rI (fun _ j => 0 < j) fun i j => .int (i % j)) ta (tC (.int 8))) (tC (.int 0))) (tOp (rI0 fun i j => .bl (decide (i ≤ j))) tb (tC (.int 2)))) σ H (.bl (pln D cn)) :=
  Ev.is (ev_andV (ev_eq (ev_I h1 ev_c (by decide)) ev_c rfl) fun _ => ev_I0 (g := fun i j => .bl (decide (i ≤ j))) h2 ev_c) (congrArg V.bl (by
    unfold pln
    have e1 : decide (V.int ((D : Int) % 8) = V.int 0) = decide (D % 8 = 0) := by
      by_cases h : D % 8 = 0
      · rw [decide_eq_true h, decide_eq_true (congrArg V.int (by omega))]
      · rw [decide_eq_false h, decide_eq_false (fun e => by injection e with e; omega)]
    have e2 : decide ((cn : Int) ≤ 2) = decide (cn ≤ 2) := by
      by_cases h : cn ≤ 2
      · rw [decide_eq_true h, decide_eq_true (by omega)]
      · rw [decide_eq_false h, decide_eq_false (by omega)]
    rw [e1, e2]))
def sp_frm (C : Addr) : Sp := fun vs H Q _ => ∃ (a : Addr) (rate D : Nat) (rs : List (List Int)), vs = [.ref a] ∧ AudAt C H a rate D rs ∧ rs.length ≤ 8 ∧ D ≤ 32 ∧ rate ≤ 1048576 ∧ RetL ((frmB rate D rs.length).map V.int) H Q
theorem map_app3 (a b c : List Int) : (a.map V.int ++ b.map V.int) ++ c.map V.int = (a ++ (b ++ c)).map V.int := by rw [List.map_append, List.map_append, List.append_assoc]
theorem map_app2 (a b : List Int) : a.map V.int ++ b.map V.int = (a ++ b).map V.int := by rw [List.map_append]
theorem ok_form_content (T : TX K mg) : FnOk P w K mg base CX0 2 T.a_form_content T.d_form_content ["audio"] (sp_frm T.C_Audio) := by
  refine T.F_form_content.ok sc_form_content (fun vs H Q E h => by obtain ⟨a, rate, D, rs, rfl, _⟩ := h; rfl) (fun cdv A outer s H vs Q E hr h => ?_)
  obtain ⟨a, rate, D, rs, rfl, ⟨dx, p, qs, ga, gp, hR⟩, h8, hD, hrt, k⟩ := h
  refine ⟨_, (pss_cons (ps_set (i := 1) sc_form_content.nd rfl (Or.inl rfl) (pe_callB (r := rLenS K) call_len_seq (by rfl) T.m_len PySem.boot_len (pa_cons (pe_fld (pv 0) rfl) pa_nil)))
      (pss_cons (ps_set (i := 2) sc_form_content.nd rfl (Or.inl rfl) (pe_call (ok_sample_bytes T) (hr.mono (by decide)) (by rfl) T.g_sample_bytes T.F_sample_bytes.kp T.b_sample_bytes .nil pass0 (pa_cons (pe_fld (pv 0) rfl) pa_nil)))
      (pss_cons (ps_set (i := 3) sc_form_content.nd rfl (Or.inl rfl) (pe_and (pe_cmpR op_eq (pe_op op_mod (pe_fld (pv 0) rfl) pe_int) pe_int (nomark _)) (pe_one (pe_cmpR op_le (pv 1) pe_int (nomark _)))))
      (pss_cons (ps_set (i := 4) sc_form_content.nd rfl (Or.inl rfl) (pe_op op_cat (pe_op op_cat (pe_call (ok_little_bytes T) (hr.mono (by decide)) (by rfl) T.g_little_bytes T.F_little_bytes.kp T.b_little_bytes .nil pass0 (pa_cons (pe_ifExp (pt_val (pv 3)) (pe_glob (by rfl) T.c_PLAIN T.r_PLAIN) (pe_glob (by rfl) T.c_EXTENDED T.r_EXTENDED)) (pa_cons pe_int pa_nil))) (pe_call (ok_little_bytes T) (hr.mono (by decide)) (by rfl) T.g_little_bytes T.F_little_bytes.kp T.b_little_bytes .nil pass0 (pa_cons (pv 1) (pa_cons pe_int pa_nil)))) (pe_call (ok_little_bytes T) (hr.mono (by decide)) (by rfl) T.g_little_bytes T.F_little_bytes.kp T.b_little_bytes .nil pass0 (pa_cons (pe_fld (pv 0) rfl) (pa_cons pe_int pa_nil)))))
      (pss_cons (ps_expr (pe_bm PySem.F.plainAttrs_list PySem.F.slot_list_extend PySem.F.type_list_extend mt_extend (pv 4) (pa_cons (pe_call (ok_little_bytes T) (hr.mono (by decide)) (by rfl) T.g_little_bytes T.F_little_bytes.kp T.b_little_bytes .nil pass0 (pa_cons (pe_op op_mul (pe_op op_mul (pe_fld (pv 0) rfl) (pv 1)) (pv 2)) (pa_cons pe_int pa_nil))) pa_nil)))
      (pss_cons (ps_expr (pe_bm PySem.F.plainAttrs_list PySem.F.slot_list_extend PySem.F.type_list_extend mt_extend (pv 4) (pa_cons (pe_call (ok_little_bytes T) (hr.mono (by decide)) (by rfl) T.g_little_bytes T.F_little_bytes.kp T.b_little_bytes .nil pass0 (pa_cons (pe_op op_mul (pv 1) (pv 2)) (pa_cons pe_int pa_nil))) pa_nil)))
      (pss_cons (ps_expr (pe_bm PySem.F.plainAttrs_list PySem.F.slot_list_extend PySem.F.type_list_extend mt_extend (pv 4) (pa_cons (pe_call (ok_little_bytes T) (hr.mono (by decide)) (by rfl) T.g_little_bytes T.F_little_bytes.kp T.b_little_bytes .nil pass0 (pa_cons (pe_op op_mul pe_int (pv 2)) (pa_cons pe_int pa_nil))) pa_nil)))
      (pss_cons (ps_if (pt_not (pt_val (pv 3))) (pss_one (ps_expr (pe_bm PySem.F.plainAttrs_list PySem.F.slot_list_extend PySem.F.type_list_extend mt_extend (pv 4) (pa_cons (pe_op op_cat (pe_op op_cat (pe_op op_cat (pe_call (ok_little_bytes T) (hr.mono (by decide)) (by rfl) T.g_little_bytes T.F_little_bytes.kp T.b_little_bytes .nil pass0 (pa_cons pe_int (pa_cons pe_int pa_nil))) (pe_call (ok_little_bytes T) (hr.mono (by decide)) (by rfl) T.g_little_bytes T.F_little_bytes.kp T.b_little_bytes .nil pass0 (pa_cons (pe_fld (pv 0) rfl) (pa_cons pe_int pa_nil)))) (pe_call (ok_little_bytes T) (hr.mono (by decide)) (by rfl) T.g_little_bytes T.F_little_bytes.kp T.b_little_bytes .nil pass0 (pa_cons pe_int (pa_cons pe_int pa_nil)))) (pe_callTy (r := rListS K) call_list_of (by rfl) T.m_list PyProof.Rows.boot_list (pa_cons (pe_glob (v := V.ref T.A_SIGN_BYTES) (by rfl) T.c_SIGN_BYTES rfl) pa_nil))) pa_nil)))) pss_nil)
      (pss_one (ps_ret (pv 4))))))))))), ?_⟩
  obtain ⟨cn, hcn⟩ : ∃ cn, rs.length = cn := ⟨_, rfl⟩
  rw [hcn] at k h8
  obtain ⟨m, hm⟩ : ∃ m, (D + 7) / 8 = m := ⟨_, rfl⟩
  have hm4 : m ≤ 4 := by omega
  have hcm : cn * m ≤ 32 := Nat.mul_le_mul h8 hm4
  have fd : ∀ {G : Hp}, Ex H G → ∀ {σ : L2.St}, σ[0]? = some (some (.ref a)) → Ev (tFld K (tVar 0) "depth") σ G (.int (D : Int)) := fun e σ h => ev_fld T.cl_Audio T.n_Audio_depth (ev_var h) (e _ _ ga) rfl
  have fr : ∀ {G : Hp}, Ex H G → ∀ {σ : L2.St}, σ[0]? = some (some (.ref a)) → Ev (tFld K (tVar 0) "rate") σ G (.int (rate : Int)) := fun e σ h => ev_fld T.cl_Audio T.n_Audio_rate (ev_var h) (e _ _ ga) rfl
  refine q_asg (v := .int (cn : Int)) (Ev.is (ev_lenS (K := K) (Ev.s (ev_fld T.cl_Audio T.n_Audio_channels (ev_var rfl) ga rfl) (sq_of gp))) (by rw [List.length_map, hR.1, hcn])) fun H1 e1 => ?_
  refine q_asg (v := .int (m : Int)) (Ev.is (ev_smb (fd e1 rfl)) (by rw [hm])) fun H2 e2 => ?_
  have e12 := e1.trans e2
  refine q_asg (v := .bl (pln D cn)) (ev_pln (fd e12 rfl) (ev_var rfl)) fun H3 e3 => ?_
  have e13 := e12.trans e3
  show tSeq _ _ _ [some (.ref a), some (.int (cn : Int)), some (.int (m : Int)), some (.bl (pln D cn)), none] _
  have len2 : ∀ (x : Int) (c : Nat), ((lowB x c).map V.int).length = c := fun x c => by rw [List.length_map, lowB_len]
  refine q_asgL (xs := (lowB (tagN D cn : Int) 2 ++ (lowB (cn : Int) 2 ++ lowB (rate : Int) 4)).map V.int) (EvL.is (el_cat (EvL.r (el_cat (EvL.r (el_lb (n := (tagN D cn : Int)) (c := 2) (ev_if (et_B (ev_var rfl)) (fun h => Ev.is ev_c (by unfold tagN; rw [if_pos h]; rfl)) (fun h => Ev.is ev_c (by unfold tagN; rw [h]; rfl))) ev_c (by decide))) (EvL.r (el_lb (c := 2) (ev_var rfl) ev_c (by decide))) (by rw [len2, len2]; omega))) (EvL.r (el_lb (c := 4) (fr e13 rfl) ev_c (by decide))) (by rw [List.length_append, len2, len2, len2]; omega)) (map_app3 _ _ _)) fun q H4 hq e4 g4 => ?_
  have hqH : H q = none := fresh_back e13 hq
  have e14 := e13.trans e4
  have hl1 : ((lowB (tagN D cn : Int) 2 ++ (lowB (cn : Int) 2 ++ lowB (rate : Int) 4)).map V.int).length = 8 := by rw [List.length_map, List.length_append, List.length_append, lowB_len, lowB_len, lowB_len]
  generalize hX1 : lowB (tagN D cn : Int) 2 ++ (lowB (cn : Int) 2 ++ lowB (rate : Int) 4) = X1 at *
  refine q_ext (zs := (lowB ((rate * cn * m : Nat) : Int) 4).map V.int) g4 (ev_var rfl) (EvL.r (el_lb (c := 4) (Ev.is (ev_I (ev_I (fr e14 rfl) (ev_var rfl) (.inl (by omega))) (ev_var rfl) (.inr (by omega))) (congrArg V.int (by rw [Int.natCast_mul, Int.natCast_mul]))) ev_c (by decide))) (by rw [hl1, len2]; omega) fun H5 e5 => ?_
  have e15 := Ex.mut (e14.trans e5) hqH (o := .lst (X1.map V.int ++ (lowB ((rate * cn * m : Nat) : Int) 4).map V.int))
  refine q_ext (zs := (lowB ((cn * m : Nat) : Int) 2).map V.int) upd_same (ev_var rfl) (EvL.r (el_lb (c := 2) (Ev.is (ev_I (ev_var rfl) (ev_var rfl) (.inl (by omega))) (congrArg V.int (by rw [Int.natCast_mul]))) ev_c (by decide))) (by rw [List.length_append, hl1, len2, len2]; omega) fun H6 e6 => ?_
  have e16 := Ex.mut (e15.trans e6) hqH (o := .lst ((X1.map V.int ++ (lowB ((rate * cn * m : Nat) : Int) 4).map V.int) ++ (lowB ((cn * m : Nat) : Int) 2).map V.int))
  refine q_ext (zs := (lowB ((8 * m : Nat) : Int) 2).map V.int) upd_same (ev_var rfl) (EvL.r (el_lb (c := 2) (Ev.is (ev_I ev_c (ev_var rfl) (.inl (by decide))) (congrArg V.int (by omega))) ev_c (by decide))) (by rw [List.length_append, List.length_append, hl1, len2, len2, len2]; omega) fun H7 e7 => ?_
  have e17 := Ex.mut (e16.trans e7) hqH (o := .lst (((X1.map V.int ++ (lowB ((rate * cn * m : Nat) : Int) 4).map V.int) ++ (lowB ((cn * m : Nat) : Int) 2).map V.int) ++ (lowB ((8 * m : Nat) : Int) 2).map V.int))
  have g7 : upd H7 q (.lst (((X1.map V.int ++ (lowB ((rate * cn * m : Nat) : Int) 4).map V.int) ++ (lowB ((cn * m : Nat) : Int) 2).map V.int) ++ (lowB ((8 * m : Nat) : Int) 2).map V.int)) q = some (.lst ((X1 ++ (lowB ((rate * cn * m : Nat) : Int) 4 ++ (lowB ((cn * m : Nat) : Int) 2 ++ lowB ((8 * m : Nat) : Int) 2))).map V.int)) := by
    rw [upd_same]
    simp only [List.map_append, List.append_assoc]
  generalize upd H7 q _ = G7 at *
  have hl7 : (X1 ++ (lowB ((rate * cn * m : Nat) : Int) 4 ++ (lowB ((cn * m : Nat) : Int) 2 ++ lowB ((8 * m : Nat) : Int) 2))).length = 16 := by
    rw [List.length_map] at hl1
    rw [List.length_append, hl1, List.length_append, List.length_append, lowB_len, lowB_len, lowB_len]
  have hfin : frmB rate D cn = (X1 ++ (lowB ((rate * cn * m : Nat) : Int) 4 ++ (lowB ((cn * m : Nat) : Int) 2 ++ lowB ((8 * m : Nat) : Int) 2))) ++ endB D cn := by
    unfold frmB
    rw [← hX1, hm]
    simp only [List.append_assoc]
  rw [hfin] at k
  generalize X1 ++ (lowB ((rate * cn * m : Nat) : Int) 4 ++ (lowB ((cn * m : Nat) : Int) 2 ++ lowB ((8 * m : Nat) : Int) 2)) = X2 at *
  clear e1 e2 e3 e4 e5 e6 e7 e12 e13 e14 e15 e16 hX1 g4
  refine q_when (b := !pln D cn) (et_not (et_B (ev_var rfl))) (fun hb H8 e8 => ?_) (fun hb H8 e8 => ?_)
  · have hb : pln D cn = false := by rw [← Bool.not_not (pln D cn), hb]; rfl
    have hend : endB D cn = ((lowB 22 2 ++ lowB (D : Int) 2) ++ lowB 0 4) ++ sgnB := by
      unfold endB
      rw [hb, if_neg (by decide)]
      simp only [List.append_assoc]
    refine s_ext (zs := (endB D cn).map V.int) (e8 _ _ g7) (ev_var rfl) (EvL.r (EvL.is (el_cat (EvL.r (el_cat (EvL.r (el_cat (EvL.r (el_lb (n := 22) (c := 2) ev_c ev_c (by decide))) (EvL.r (el_lb (c := 2) (fd (e17.trans e8) rfl) ev_c (by decide))) (by rw [len2, len2]; omega))) (EvL.r (el_lb (n := 0) (c := 4) ev_c ev_c (by decide))) (by rw [List.length_append, len2, len2, len2]; omega))) (EvL.r (el_ofP (xs := sgnB.map V.int) ev_c (T.s_SIGN_BYTES _))) (by rw [List.length_append, List.length_append, len2, len2, len2]; show 2 + 2 + 4 + 16 ≤ 100000; decide)) (by rw [hend, List.map_append, List.map_append, List.map_append]))) (by rw [List.length_map, hl7, List.length_map, endB_len]; split <;> omega) fun H9 e9 => ?_
    refine s_ret (ev_var rfl) fun H10 e10 => ?_
    refine k q _ hqH ((Ex.mut (e17.trans (e8.trans e9)) hqH).trans e10) (e10 _ _ ?_)
    rw [upd_same, List.map_append]
  · have hb : pln D cn = true := by rw [← Bool.not_not (pln D cn), hb]; rfl
    refine s_ret (ev_var rfl) fun H9 e9 => k q _ hqH (e17.trans (e8.trans e9)) ((e8.trans e9) _ _ ?_)
    unfold endB
    rw [hb, if_pos rfl, List.append_nil]
    exact g7
def sp_lfrm : Sp := fun vs H Q _ => ∃ (rate D cn : Nat), vs = [.int (rate : Int), .int (D : Int), .int (cn : Int)] ∧ cn ≤ 8 ∧ D ≤ 32 ∧ rate ≤ 1048576 ∧ RetL ((frmB rate D cn).map V.int) H Q
theorem ok_law_format (T : TX K mg) : FnOk P w K mg base CX0 2 T.a_law_format T.d_law_format ["rate", "depth", "count"] sp_lfrm := by
  refine T.F_law_format.ok sc_law_format (fun vs H Q E h => by obtain ⟨rate, D, cn, rfl, _⟩ := h; rfl) (fun cdv A outer s H vs Q E hr h => ?_)
  obtain ⟨rate, D, cn, rfl, h8, hD, hrt, k⟩ := h
  refine ⟨_, (pss_cons (ps_set (i := 3) sc_law_format.nd rfl (Or.inl rfl) (pe_op op_fdiv (pe_op op_add (pv 1) pe_int) pe_int))
      (pss_cons (ps_set (i := 4) sc_law_format.nd rfl (Or.inl rfl) (pe_and (pe_cmpR op_eq (pe_op op_mod (pe_callTy call_int1 (by rfl) T.m_int PyProof.Rows.boot_int (pa_cons (pv 1) pa_nil)) pe_int) pe_int (nomark _)) (pe_one (pe_cmpR op_le (pv 2) pe_int (nomark _)))))
      (pss_cons (ps_set (i := 5) sc_law_format.nd rfl (Or.inl rfl) pe_int)
      (pss_cons (ps_if (pt_val (pv 4)) (pss_one (ps_set (i := 5) sc_law_format.nd rfl (Or.inl rfl) pe_int)) pss_nil)
      (pss_cons (ps_set (i := 6) sc_law_format.nd rfl (Or.inl rfl) (pe_op op_cat (pe_op op_cat (pe_call (ok_law_little T) (hr.mono (by decide)) (by rfl) T.g_law_little T.F_law_little.kp T.b_law_little .nil pass0 (pa_cons (pv 5) (pa_cons pe_int pa_nil))) (pe_call (ok_law_little T) (hr.mono (by decide)) (by rfl) T.g_law_little T.F_law_little.kp T.b_law_little .nil pass0 (pa_cons (pv 2) (pa_cons pe_int pa_nil)))) (pe_call (ok_law_little T) (hr.mono (by decide)) (by rfl) T.g_law_little T.F_law_little.kp T.b_law_little .nil pass0 (pa_cons (pv 0) (pa_cons pe_int pa_nil)))))
      (pss_cons (ps_set (i := 6) sc_law_format.nd rfl (Or.inl rfl) (pe_op op_cat (pe_op op_cat (pe_op op_cat (pv 6) (pe_call (ok_law_little T) (hr.mono (by decide)) (by rfl) T.g_law_little T.F_law_little.kp T.b_law_little .nil pass0 (pa_cons (pe_op op_mul (pe_op op_mul (pv 0) (pv 2)) (pv 3)) (pa_cons pe_int pa_nil)))) (pe_call (ok_law_little T) (hr.mono (by decide)) (by rfl) T.g_law_little T.F_law_little.kp T.b_law_little .nil pass0 (pa_cons (pe_op op_mul (pv 2) (pv 3)) (pa_cons pe_int pa_nil)))) (pe_call (ok_law_little T) (hr.mono (by decide)) (by rfl) T.g_law_little T.F_law_little.kp T.b_law_little .nil pass0 (pa_cons (pe_op op_mul pe_int (pv 3)) (pa_cons pe_int pa_nil)))))
      (pss_cons (ps_if (pt_val (pv 4)) (pss_one (ps_ret (pv 6))) pss_nil)
      (pss_cons (ps_set (i := 7) sc_law_format.nd rfl (Or.inl rfl) (pe_lst (pa_cons pe_int (pa_cons pe_int (pa_cons pe_int (pa_cons pe_int (pa_cons pe_int (pa_cons pe_int (pa_cons pe_int (pa_cons pe_int (pa_cons pe_int (pa_cons pe_int (pa_cons pe_int (pa_cons pe_int (pa_cons pe_int (pa_cons pe_int (pa_cons pe_int (pa_cons pe_int pa_nil))))))))))))))))))
      (pss_one (ps_ret (pe_op op_cat (pe_op op_cat (pe_op op_cat (pe_op op_cat (pv 6) (pe_lst (pa_cons pe_int (pa_cons pe_int pa_nil)))) (pe_call (ok_law_little T) (hr.mono (by decide)) (by rfl) T.g_law_little T.F_law_little.kp T.b_law_little .nil pass0 (pa_cons (pv 1) (pa_cons pe_int pa_nil)))) (pe_lst (pa_cons pe_int (pa_cons pe_int (pa_cons pe_int (pa_cons pe_int pa_nil)))))) (pv 7)))))))))))), ?_⟩
  obtain ⟨m, hm⟩ : ∃ m, (D + 7) / 8 = m := ⟨_, rfl⟩
  have hm4 : m ≤ 4 := by omega
  have hcm : cn * m ≤ 32 := Nat.mul_le_mul h8 hm4
  have len2 : ∀ (x : Int) (c : Nat), ((lowB x c).map V.int).length = c := fun x c => by rw [List.length_map, lowB_len]
  refine q_asg (v := .int (m : Int)) (Ev.is (ev_I (ev_I0 (g := fun i j => .int (i + j)) (ev_var rfl) ev_c) ev_c ⟨by decide, by decide⟩) (congrArg V.int (by omega))) fun H1 e1 => ?_
  refine q_asg (v := .bl (pln D cn)) (ev_pln (ev_int1 (ev_var rfl)) (ev_var rfl)) fun H2 e2 => ?_
  refine q_asg (v := .int 65534) ev_c fun H3 e3 => ?_
  show tSeq _ _ _ [some (.int (rate : Int)), some (.int (D : Int)), some (.int (cn : Int)), some (.int (m : Int)), some (.bl (pln D cn)), some (.int 65534), none, none] _
  refine q_ifAsg (v := .int (tagN D cn : Int)) (et_B (ev_var rfl)) (fun h => Ev.is ev_c (by unfold tagN; rw [if_pos h]; rfl)) (fun h => by unfold tagN; rw [h]; rfl) fun H4 e4 => ?_
  have e14 := e1.trans (e2.trans (e3.trans e4))
  refine q_asgL (xs := (lowB (tagN D cn : Int) 2 ++ (lowB (cn : Int) 2 ++ lowB (rate : Int) 4)).map V.int) (EvL.is (el_cat (EvL.r (el_cat (EvL.r (el_lb (c := 2) (ev_var rfl) ev_c (by decide))) (EvL.r (el_lb (c := 2) (ev_var rfl) ev_c (by decide))) (by rw [len2, len2]; omega))) (EvL.r (el_lb (c := 4) (ev_var rfl) ev_c (by decide))) (by rw [List.length_append, len2, len2, len2]; omega)) (map_app3 _ _ _)) fun q H5 hq e5 g5 => ?_
  show tSeq _ _ _ [some (.int (rate : Int)), some (.int (D : Int)), some (.int (cn : Int)), some (.int (m : Int)), some (.bl (pln D cn)), some (.int (tagN D cn : Int)), some (.ref q), none] _
  have hl1 : ((lowB (tagN D cn : Int) 2 ++ (lowB (cn : Int) 2 ++ lowB (rate : Int) 4)).map V.int).length = 8 := by rw [List.length_map, List.length_append, List.length_append, lowB_len, lowB_len, lowB_len]
  generalize hX1 : lowB (tagN D cn : Int) 2 ++ (lowB (cn : Int) 2 ++ lowB (rate : Int) 4) = X1 at *
  refine q_asgL (xs := (X1 ++ (lowB ((rate * cn * m : Nat) : Int) 4 ++ (lowB ((cn * m : Nat) : Int) 2 ++ lowB ((8 * m : Nat) : Int) 2))).map V.int) (EvL.is (el_cat (EvL.r (el_cat (EvL.r (el_cat (Ev.r (ev_var rfl) g5) (EvL.r (el_lb (n := ((rate * cn * m : Nat) : Int)) (c := 4) (Ev.is (ev_I (ev_I (ev_var rfl) (ev_var rfl) (.inl (by omega))) (ev_var rfl) (.inr (by omega))) (congrArg V.int (by rw [Int.natCast_mul, Int.natCast_mul]))) ev_c (by decide))) (by rw [hl1, len2]; omega))) (EvL.r (el_lb (n := ((cn * m : Nat) : Int)) (c := 2) (Ev.is (ev_I (ev_var rfl) (ev_var rfl) (.inl (by omega))) (congrArg V.int (by rw [Int.natCast_mul]))) ev_c (by decide))) (by rw [List.length_append, hl1, len2, len2]; omega))) (EvL.r (el_lb (n := ((8 * m : Nat) : Int)) (c := 2) (Ev.is (ev_I ev_c (ev_var rfl) (.inl (by decide))) (congrArg V.int (by omega))) ev_c (by decide))) (by rw [List.length_append, List.length_append, hl1, len2, len2, len2]; omega)) (by simp only [List.map_append, List.append_assoc])) fun q2 H6 hq2 e6 g6 => ?_
  show tSeq _ _ _ [some (.int (rate : Int)), some (.int (D : Int)), some (.int (cn : Int)), some (.int (m : Int)), some (.bl (pln D cn)), some (.int (tagN D cn : Int)), some (.ref q2), none] _
  have e15 := e14.trans e5
  have hqH : H q2 = none := fresh_back e15 hq2
  have e16 := e15.trans e6
  have hl7 : (X1 ++ (lowB ((rate * cn * m : Nat) : Int) 4 ++ (lowB ((cn * m : Nat) : Int) 2 ++ lowB ((8 * m : Nat) : Int) 2))).length = 16 := by
    rw [List.length_map] at hl1
    rw [List.length_append, hl1, List.length_append, List.length_append, lowB_len, lowB_len, lowB_len]
  have hfin : frmB rate D cn = (X1 ++ (lowB ((rate * cn * m : Nat) : Int) 4 ++ (lowB ((cn * m : Nat) : Int) 2 ++ lowB ((8 * m : Nat) : Int) 2))) ++ endB D cn := by
    unfold frmB
    rw [← hX1, hm]
    simp only [List.append_assoc]
  rw [hfin] at k
  generalize X1 ++ (lowB ((rate * cn * m : Nat) : Int) 4 ++ (lowB ((cn * m : Nat) : Int) 2 ++ lowB ((8 * m : Nat) : Int) 2)) = X2 at *
  refine q_when (b := pln D cn) (et_B (ev_var rfl)) (fun hb H7 e7 => ?_) (fun hb H7 e7 => ?_)
  · refine s_ret (ev_var rfl) fun H8 e8 => k q2 _ hqH (e16.trans (e7.trans e8)) ((e7.trans e8) _ _ ?_)
    unfold endB
    rw [hb, if_pos rfl, List.append_nil]
    exact g6
  · have hend : endB D cn = [22, 0] ++ (lowB (D : Int) 2 ++ ([0, 0, 0, 0] ++ sgnB)) := by
      unfold endB
      rw [hb, if_neg (by decide)]
      rfl
    refine q_asgL (xs := sgnB.map V.int) (el_lst (ea_cons ev_c (ea_cons ev_c (ea_cons ev_c (ea_cons ev_c (ea_cons ev_c (ea_cons ev_c (ea_cons ev_c (ea_cons ev_c (ea_cons ev_c (ea_cons ev_c (ea_cons ev_c (ea_cons ev_c (ea_cons ev_c (ea_cons ev_c (ea_cons ev_c (ea_cons ev_c ea_nil)))))))))))))))) (by decide)) fun pe H8 hpe e8 g8 => ?_
    have e78 := e7.trans e8
    refine s_retL (EvL.is (el_cat (EvL.r (el_cat (EvL.r (el_cat (EvL.r (el_cat (Ev.r (ev_var rfl) (e78 _ _ g6)) (EvL.r (el_lst (vs := [.int 22, .int 0]) (ea_cons ev_c (ea_cons ev_c ea_nil)) (by decide))) (by rw [List.length_map, hl7]; decide))) (EvL.r (el_lb (n := (D : Int)) (c := 2) (ev_var rfl) ev_c (by decide))) (by rw [List.length_append, List.length_map, hl7, len2]; decide))) (EvL.r (el_lst (vs := [.int 0, .int 0, .int 0, .int 0]) (ea_cons ev_c (ea_cons ev_c (ea_cons ev_c (ea_cons ev_c ea_nil)))) (by decide))) (by rw [List.length_append, List.length_append, List.length_map, hl7, len2]; decide))) (Ev.r (ev_var rfl) g8) (by rw [List.length_append, List.length_append, List.length_append, List.length_map, hl7, len2]; decide)) ?_) fun p2 H9 h9 e9 g9 => k p2 H9 (fresh_back (e16.trans e78) h9) ((e16.trans e78).trans e9) g9
    rw [hend]
    simp only [List.map_append, List.append_assoc]
    rfl
/-! ### the data chunk -/
def outF (f : Int → List Int) (rs : List (List Int)) (n : Nat) : List Int := (List.range n).flatMap fun i => (col rs i).flatMap f
def datB (D : Nat) (rs : List (List Int)) (n : Nat) : List Int := outF (fun x => lowB (stv D x) ((D + 7) / 8)) rs n
theorem outF_len {f : Int → List Int} {m : Nat} (hf : ∀ x, (f x).length = m) (rs : List (List Int)) (n : Nat) : (outF f rs n).length = n * (rs.length * m) := by
  unfold outF
  rw [flat_lenI (m := rs.length * m) (fun i => by rw [flat_lenI (m := m) hf, col_len]), List.length_range]
theorem outF_succ (f : Int → List Int) (rs : List (List Int)) (i : Nat) : outF f rs (i + 1) = outF f rs i ++ (col rs i).flatMap f := by
  unfold outF
  rw [List.range_succ, List.flatMap_append]
  show _ ++ (_ ++ []) = _
  rw [List.append_nil]
theorem col_mem {rs : List (List Int)} {n i : Nat} (hn : ∀ r ∈ rs, r.length = n) (hi : i < n) {x : Int} (hx : x ∈ col rs i) : ∃ r ∈ rs, x ∈ r := by
  obtain ⟨r, hr, rfl⟩ := List.mem_map.mp hx
  refine ⟨r, hr, ?_⟩
  unfold gx0
  rw [List.getD_eq_getElem?_getD, List.getElem?_eq_getElem (show i < r.length by rw [hn r hr]; exact hi)]
  exact List.getElem_mem _
def Rws (D n : Nat) (rs : List (List Int)) : Prop := (∀ r ∈ rs, r.length = n) ∧ ∀ r ∈ rs, ∀ x ∈ r, -(2 ^ (D - 1)) ≤ x ∧ x < 2 ^ (D - 1)
def sp_dat (C : Addr) : Sp := fun vs H Q _ => ∃ (a : Addr) (rate D n : Nat) (rs : List (List Int)), vs = [.ref a] ∧ AudAt C H a rate D rs ∧ rs ≠ [] ∧ rs.length ≤ 8 ∧ n ≤ 8 ∧ 4 ≤ D ∧ D ≤ 32 ∧ Rws D n rs ∧ RetL ((datB D rs n).map V.int) H Q
theorem ok_data_content (T : TX K mg) : FnOk P w K mg base CX0 2 T.a_data_content T.d_data_content ["audio"] (sp_dat T.C_Audio) := by
  refine T.F_data_content.ok sc_data_content (fun vs H Q E h => by obtain ⟨a, rate, D, n, rs, rfl, _⟩ := h; rfl) (fun cdv A outer s H vs Q E hr h => ?_)
  obtain ⟨a, rate, D, n, rs, rfl, ⟨dx, L, as, ga, hL, hR⟩, hne', h8, hn8, hD4, hD, ⟨hn, hb⟩, k⟩ := h
  refine ⟨_, (pss_cons (ps_set (i := 1) sc_data_content.nd rfl (Or.inl rfl) (pe_call (ok_sample_bytes T) (hr.mono (by decide)) (by rfl) T.g_sample_bytes T.F_sample_bytes.kp T.b_sample_bytes .nil pass0 (pa_cons (pe_fld (pv 0) rfl) pa_nil)))
      (pss_cons (ps_set (i := 2) sc_data_content.nd rfl (Or.inl rfl) (pe_op op_sub (pe_op op_mul pe_int (pv 1)) (pe_fld (pv 0) rfl)))
      (pss_cons (ps_set (i := 3) sc_data_content.nd rfl (Or.inl rfl) (pe_ifExp (pt_cmpR op_eq (pv 1) pe_int (nomark _)) pe_int pe_int))
      (pss_cons (ps_set (i := 4) sc_data_content.nd rfl (Or.inl rfl) (pe_lst pa_nil))
      (pss_cons (ps_for PassesOwn.never rfl (ZN.pi_zipS (by rfl) T.m_zip (pe_fld (pv 0) rfl)) (pg_name (i := 5) sc_data_content.nd rfl (Or.inl rfl)) (pss_one (ps_for PassesOwn.never rfl (pi_tup (pv 5)) (pg_name (i := 6) sc_data_content.nd rfl (Or.inl rfl)) (pss_one (ps_expr (pe_bm PySem.F.plainAttrs_list PySem.F.slot_list_extend PySem.F.type_list_extend mt_extend (pv 4) (pa_cons (pe_call (ok_little_bytes T) (hr.mono (by decide)) (by rfl) T.g_little_bytes T.F_little_bytes.kp T.b_little_bytes .nil pass0 (pa_cons (pe_op op_add (pe_op op_shl (pv 6) (pv 2)) (pv 3)) (pa_cons (pv 1) pa_nil))) pa_nil)))))))
      (pss_one (ps_ret (pv 4)))))))), ?_⟩
  obtain ⟨m, hm⟩ : ∃ m, (D + 7) / 8 = m := ⟨_, rfl⟩
  obtain ⟨f, hf⟩ : ∃ f : Int → List Int, (fun x => lowB (stv D x) ((D + 7) / 8)) = f := ⟨_, rfl⟩
  have hfl : ∀ x, (f x).length = m := fun x => by rw [← hf]; show (lowB _ _).length = m; rw [lowB_len, hm]
  have hm4 : 1 ≤ m ∧ m ≤ 4 := by omega
  unfold datB at k
  rw [hf] at k
  have hne : as ≠ [] := by intro h; have := hR.1; rw [h] at this; exact hne' (List.eq_nil_of_length_eq_zero this.symm)
  have hal : as.length ≤ 8 := by rw [hR.1]; exact h8
  refine q_asg (v := .int (m : Int)) (Ev.is (ev_smb (ev_fld T.cl_Audio T.n_Audio_depth (ev_var rfl) ga rfl)) (by rw [hm])) fun H1 e1 => ?_
  refine q_asg (v := .int ((8 * m - D : Nat) : Int)) (Ev.is (ev_I0 (g := fun i j => .int (i - j)) (ev_I ev_c (ev_var rfl) (.inl (by decide))) (ev_fld T.cl_Audio T.n_Audio_depth (ev_var rfl) (e1 _ _ ga) rfl)) (congrArg V.int (by omega))) fun H2 e2 => ?_
  refine q_asg (v := .int (if m = 1 then 128 else 0)) (ev_if (b := decide (m = 1)) (et_test (Ev.is (ev_eq (ev_var rfl) ev_c rfl) (congrArg V.bl (by by_cases h : m = 1 <;> simp [h] <;> omega)))) (fun h => Ev.is ev_c (by rw [if_pos (of_decide_eq_true h)])) (fun h => Ev.is ev_c (by rw [if_neg (of_decide_eq_false h)]))) fun H3 e3 => ?_
  have e13 := e1.trans (e2.trans e3)
  refine q_asgL (xs := []) (el_lst ea_nil (by decide)) fun p H4 hp e4 g4 => ?_
  have hpH : H p = none := fresh_back e13 hp
  have e14 := e13.trans e4
  show tSeq _ _ _ [some (.ref a), some (.int (m : Int)), some (.int ((8 * m - D : Nat) : Int)), some (.int (if m = 1 then 128 else 0)), some (.ref p), none, none] _
  have hbd : ∀ i, i ≤ 8 → (outF f rs i).length ≤ 256 := fun i hi => by
    rw [outF_len hfl]
    have h1 : rs.length * m ≤ 8 * 4 := Nat.mul_le_mul h8 hm4.2
    exact Nat.le_trans (Nat.mul_le_mul hi h1) (by decide)
  refine q_forZS (as := as) (rs := rs.map fun r => r.map V.int) (n := n) (ev_fld T.cl_Audio T.n_Audio_channels (ev_var rfl) (e14 _ _ ga) rfl) (e14 _ _ hL) (fun j a r h1 h2 => by
    rw [List.getElem?_map] at h2
    obtain ⟨r', h3, rfl⟩ := Option.map_eq_some_iff.mp h2
    exact sq_of (e14 _ _ (hR.2 j a r' h1 h3))) (fun r hr => by obtain ⟨r', h1, rfl⟩ := List.mem_map.mp hr; rw [List.length_map]; exact hn r' h1) (by rw [List.length_map]; exact hR.1) hne (Nat.le_trans hal (by decide)) (fun i σ' H' => ∃ z4 z5 : Option V, σ' = [some (.ref a), some (.int (m : Int)), some (.int ((8 * m - D : Nat) : Int)), some (.int (if m = 1 then 128 else 0)), some (.ref p), z4, z5] ∧ Ex H3 H' ∧ H' p = some (.lst ((outF f rs i).map V.int))) (fun H5 e5 => ⟨none, none, rfl, e4.trans e5, e5 _ _ g4⟩) (fun i σ' H' _ h j a r h1 h2 => by
    obtain ⟨_, _, _, ex, _⟩ := h
    rw [List.getElem?_map] at h2
    obtain ⟨r', h3, rfl⟩ := Option.map_eq_some_iff.mp h2
    exact sq_of ((e13.trans ex) _ _ (hR.2 j a r' h1 h3))) ?_ ?_
  · rintro i vs T0 σ' H5 hi hvl hv ⟨z4, z5, rfl, ex, gp⟩ hT
    have hvs : vs = (col rs i).map V.int := by
      refine List.ext_getElem? fun j => ?_
      cases hj : rs[j]? with
      | none =>
        have h1 := List.getElem?_eq_none_iff.mp hj
        rw [List.getElem?_eq_none (by rw [hvl, hR.1]; exact h1), List.getElem?_eq_none (by rw [List.length_map, col_len]; exact h1)]
      | some r =>
        have h1 := hv j (r.map V.int) (by rw [List.getElem?_map, hj]; rfl)
        have hrn := hn r (List.mem_of_getElem? hj)
        rw [← h1, List.getElem?_map, List.getElem?_map, List.getElem?_eq_getElem (by rw [hrn]; exact hi)]
        unfold col
        rw [List.getElem?_map, hj]
        show some (V.int _) = some (V.int (gx0 r i))
        unfold gx0
        rw [List.getD_eq_getElem?_getD, List.getElem?_eq_getElem (by rw [hrn]; exact hi)]
        rfl
    subst hvs
    have xT := Ex.new (o := .tup ((col rs i).map V.int)) hT
    have e5 := ex.trans xT
    have gp5 := xT _ _ gp
    have gT : upd H5 T0 (.tup ((col rs i).map V.int)) T0 = some (.tup ((col rs i).map V.int)) := upd_same
    generalize upd H5 T0 (.tup ((col rs i).map V.int)) = G5 at *
    have hbi := hbd i (by omega)
    refine s_forT (a := T0) (xs := (col rs i).map V.int) (ev_var rfl) (st_of gT) (fun j σ' H' => ∃ z5 : Option V, σ' = [some (.ref a), some (.int (m : Int)), some (.int ((8 * m - D : Nat) : Int)), some (.int (if m = 1 then 128 else 0)), some (.ref p), some (.ref T0), z5] ∧ Ex H3 H' ∧ H' T0 = some (.tup ((col rs i).map V.int)) ∧ H' p = some (.lst ((outF f rs i ++ ((col rs i).take j).flatMap f).map V.int))) (fun H6 e6 => ⟨z5, rfl, e5.trans e6, e6 _ _ gT, by rw [List.take_zero, List.flatMap_nil, List.append_nil]; exact e6 _ _ gp5⟩) (fun j σ' H' _ h => by obtain ⟨_, _, _, g, _⟩ := h; exact st_of g) ?_ ?_
    · rintro j x σ' H6 hx ⟨z, rfl, e6, gT6, gp6⟩
      obtain ⟨v, hvj, hj, rfl⟩ := int_at hx
      have hfl1 := flat_snocI (f := f) hvj
      obtain ⟨r, hr, hvr⟩ := col_mem hn hi (List.mem_of_getElem? hvj)
      have hvb := stv_bd hD4 hD (hb r hr v hvr).1 (hb r hr v hvr).2
      have hlt : (((col rs i).take j).flatMap f).length ≤ 32 := by
        rw [flat_lenI (m := m) hfl, List.length_take, col_len]
        exact Nat.le_trans (Nat.mul_le_mul (show min j rs.length ≤ 8 by omega) hm4.2) (by decide)
      have npT : T0 ≠ p := by rintro rfl; rw [gT6] at gp6; cases gp6
      refine s_ext (zs := (f v).map V.int) gp6 (ev_var rfl) (EvL.r (EvL.is (el_lb (n := stv D v) (c := m) (Ev.is (ev_I0 (g := fun i j => .int (i + j)) (ev_shlN (x := v) (j := 8 * m - D) (ev_var rfl) (ev_var rfl) (by omega) hvb) (ev_var rfl)) (by unfold stv; rw [hm])) (ev_var rfl) (by omega)) (by rw [← hf]; show _ = (lowB _ _).map _; rw [hm]))) (by rw [List.length_map, List.length_map, List.length_append, hfl]; omega) fun H7 e7 => ⟨_, rfl, Ex.mut (e6.trans e7) hp, ?_, ?_⟩
      · rw [upd_ne npT]
        exact e7 _ _ gT6
      · rw [upd_same, ← List.map_append, List.append_assoc, ← hfl1]
    · rintro σ' H6 ⟨z, rfl, e6, gT6, gp6⟩
      refine ⟨_, _, rfl, e6, ?_⟩
      rw [List.length_map, List.take_length] at gp6
      rw [outF_succ]
      exact gp6
  · rintro σ' H5 ⟨z4, z5, rfl, ex, gp⟩
    exact s_ret (ev_var rfl) fun H6 e6 => k p H6 hpH (e13.trans (ex.trans e6)) (e6 _ _ gp)

-- K14D
/-! ### the file -/
def rifB : List Int := [82, 73, 70, 70]
def wavB : List Int := [87, 65, 86, 69]
def frmN : List Int := [102, 109, 116, 32]
def datN : List Int := [100, 97, 116, 97]
def filB (ds : List Int) : List Int := rifB ++ (lowB ((4 + ds.length : Nat) : Int) 4 ++ (wavB ++ ds))
theorem datB_len (D : Nat) (rs : List (List Int)) (n : Nat) : (datB D rs n).length = n * (rs.length * ((D + 7) / 8)) := outF_len (fun x => lowB_len _ _) rs n
theorem datB_le {D n : Nat} {rs : List (List Int)} (h8 : rs.length ≤ 8) (hn8 : n ≤ 8) (hD : D ≤ 32) : (datB D rs n).length ≤ 256 := by
  rw [datB_len]
  exact Nat.le_trans (Nat.mul_le_mul hn8 (Nat.mul_le_mul h8 (show (D + 7) / 8 ≤ 4 by omega))) (by decide)
def sp_ww (C : Addr) : Sp := fun vs H Q _ => ∃ (a : Addr) (rate D n : Nat) (rs : List (List Int)), vs = [.ref a] ∧ AudAt C H a rate D rs ∧ rs ≠ [] ∧ rs.length ≤ 8 ∧ n ≤ 8 ∧ 4 ≤ D ∧ D ≤ 32 ∧ rate ≤ 1048576 ∧ Rws D n rs ∧ RetL ((filB (chB frmN (frmB rate D rs.length) ++ chB datN (datB D rs n))).map V.int) H Q
theorem ok_write_wave (T : TX K mg) : FnOk P w K mg base CX0 3 T.a_write_wave T.d_write_wave ["audio"] (sp_ww T.C_Audio) := by
  refine T.F_write_wave.ok sc_write_wave (fun vs H Q E h => by obtain ⟨a, rate, D, n, rs, rfl, _⟩ := h; rfl) (fun cdv A outer s H vs Q E hr h => ?_)
  obtain ⟨a, rate, D, n, rs, rfl, hA, hne, h8, hn8, hD4, hD, hrt, hW, k⟩ := h
  refine ⟨_, (pss_cons (ps_set (i := 1) sc_write_wave.nd rfl (Or.inl rfl) (pe_op op_cat (pe_call (ok_chunk T) (hr.mono (by decide)) (by rfl) T.g_chunk T.F_chunk.kp T.b_chunk .nil pass0 (pa_cons (pe_glob (v := V.ref T.A_FORM) (by rfl) T.c_FORM rfl) (pa_cons (pe_call (ok_form_content T) (hr.mono (by decide)) (by rfl) T.g_form_content T.F_form_content.kp T.b_form_content .nil pass0 (pa_cons (pv 0) pa_nil)) pa_nil))) (pe_call (ok_chunk T) (hr.mono (by decide)) (by rfl) T.g_chunk T.F_chunk.kp T.b_chunk .nil pass0 (pa_cons (pe_glob (v := V.ref T.A_DATA) (by rfl) T.c_DATA rfl) (pa_cons (pe_call (ok_data_content T) (hr.mono (by decide)) (by rfl) T.g_data_content T.F_data_content.kp T.b_data_content .nil pass0 (pa_cons (pv 0) pa_nil)) pa_nil)))))
      (pss_one (ps_ret (pe_op op_cat (pe_op op_cat (pe_op op_cat (pe_callTy (r := rListS K) call_list_of (by rfl) T.m_list PyProof.Rows.boot_list (pa_cons (pe_glob (v := V.ref T.A_RIFF) (by rfl) T.c_RIFF rfl) pa_nil)) (pe_call (ok_little_bytes T) (hr.mono (by decide)) (by rfl) T.g_little_bytes T.F_little_bytes.kp T.b_little_bytes .nil pass0 (pa_cons (pe_op op_add (pe_callB (r := rLenS K) call_len_seq (by rfl) T.m_len PySem.boot_len (pa_cons (pe_glob (v := V.ref T.A_WAVE) (by rfl) T.c_WAVE rfl) pa_nil)) (pe_callB (r := rLenS K) call_len_seq (by rfl) T.m_len PySem.boot_len (pa_cons (pv 1) pa_nil))) (pa_cons pe_int pa_nil)))) (pe_callTy (r := rListS K) call_list_of (by rfl) T.m_list PyProof.Rows.boot_list (pa_cons (pe_glob (v := V.ref T.A_WAVE) (by rfl) T.c_WAVE rfl) pa_nil))) (pv 1))))), ?_⟩
  have hfl : (frmB rate D rs.length).length ≤ 40 := by rw [frmB_len]; split <;> omega
  have hdl := datB_le h8 hn8 hD
  have hc1 : (chB frmN (frmB rate D rs.length)).length ≤ 100 := by rw [chB_len]; show 4 + 4 + _ + _ ≤ _; omega
  have hc2 : (chB datN (datB D rs n)).length ≤ 1000 := by rw [chB_len]; show 4 + 4 + _ + _ ≤ _; omega
  refine q_asgL (xs := (chB frmN (frmB rate D rs.length) ++ chB datN (datB D rs n)).map V.int) (EvL.is (el_cat (EvL.r (el_chk (nm := frmN) (ds := frmB rate D rs.length) ev_c (T.s_FORM _) (EvL.r (el_call (ea_cons (ev_var rfl) ea_nil) fun G e Q2 q2 _ => ⟨a, rate, D, rs, rfl, hA.ex e, h8, hD, hrt, q2⟩)) (by decide) (by omega))) (EvL.r (el_chk (nm := datN) (ds := datB D rs n) ev_c (T.s_DATA _) (EvL.r (el_call (ea_cons (ev_var rfl) ea_nil) fun G e Q2 q2 _ => ⟨a, rate, D, n, rs, rfl, hA.ex e, hne, h8, hn8, hD4, hD, hW, q2⟩)) (by decide) (by omega))) (by rw [List.length_map, List.length_map]; omega)) (map_app2 _ _)) fun p H1 hp e1 g1 => ?_
  have hcl : (chB frmN (frmB rate D rs.length) ++ chB datN (datB D rs n)).length ≤ 1100 := by rw [List.length_append]; omega
  generalize chB frmN (frmB rate D rs.length) ++ chB datN (datB D rs n) = ds at *
  refine s_retL (EvL.is (el_cat (EvL.r (el_cat (EvL.r (el_cat (EvL.r (el_ofP (xs := rifB.map V.int) ev_c (T.s_RIFF _))) (EvL.r (el_lb (n := ((4 + ds.length : Nat) : Int)) (c := 4) (Ev.is (ev_I0 (g := fun i j => .int (i + j)) (ev_lenP (xs := wavB.map V.int) ev_c (T.s_WAVE _)) (ev_lenS (K := K) (Ev.s (ev_var rfl) (sq_of g1)))) (by rw [List.length_map, List.length_map]; exact congrArg V.int (by show ((4 : Nat) : Int) + _ = _; omega))) ev_c (by decide))) (by rw [List.length_map, List.length_map, lowB_len]; decide))) (EvL.r (el_ofP (xs := wavB.map V.int) ev_c (T.s_WAVE _))) (by rw [List.length_append, List.length_map, List.length_map, List.length_map, lowB_len]; decide))) (Ev.r (ev_var rfl) g1) (by rw [List.length_append, List.length_append, List.length_map, List.length_map, List.length_map, List.length_map, lowB_len]; show 4 + 4 + 4 + _ ≤ _; omega)) ?_) fun p2 H2 hp2 e2 g2 => k p2 H2 (fresh_back e1 hp2) (e1.trans e2) g2
  unfold filB
  simp only [List.map_append, List.append_assoc]
/-! ### the law's parts -/
def sp_lsm : Sp := fun vs H Q _ => ∃ (L : Addr) (as : List Addr) (n D : Nat) (rs : List (List Int)), vs = [.ref L, .int (n : Int), .int (D : Int)] ∧ H L = some (.lst (as.map V.ref)) ∧ RwAt H as rs ∧ rs.length ≤ 8 ∧ n ≤ 8 ∧ 4 ≤ D ∧ D ≤ 32 ∧ Rws D n rs ∧ RetL ((datB D rs n).map V.int) H Q
theorem ok_law_samples (T : TX K mg) : FnOk P w K mg base CX0 2 T.a_law_samples T.d_law_samples ["channels", "size", "depth"] sp_lsm := by
  refine T.F_law_samples.ok sc_law_samples (fun vs H Q E h => by obtain ⟨L, as, n, D, rs, rfl, _⟩ := h; rfl) (fun cdv A outer s H vs Q E hr h => ?_)
  obtain ⟨L, as, n, D, rs, rfl, gL, hR, h8, hn8, hD4, hD, ⟨hn, hb⟩, k⟩ := h
  refine ⟨_, (pss_cons (ps_set (i := 3) sc_law_samples.nd rfl (Or.inl rfl) (pe_op op_fdiv (pe_op op_add (pv 2) pe_int) pe_int))
      (pss_cons (ps_set (i := 4) sc_law_samples.nd rfl (Or.inl rfl) (pe_lst pa_nil))
      (pss_cons (ps_for PassesOwn.never rfl (pi_range1 (by rfl) T.m_range (pa_cons (pv 1) pa_nil)) (pg_name (i := 5) sc_law_samples.nd rfl (Or.inl rfl)) (pss_one (ps_for PassesOwn.never rfl (pi_list (pv 0)) (pg_name (i := 6) sc_law_samples.nd rfl (Or.inl rfl)) (pss_cons (ps_set (i := 7) sc_law_samples.nd rfl (Or.inl rfl) (pe_op op_shl (pe_ix (r := rIxL K) ix_list (pv 6) (pv 5) (fun _ _ => rfl)) (pe_op op_sub (pe_op op_mul pe_int (pv 3)) (pv 2))))
          (pss_cons (ps_if (pt_cmpR op_eq (pv 3) pe_int (nomark _)) (pss_one (ps_set (i := 7) sc_law_samples.nd rfl (Or.inl rfl) (pe_op op_add (pv 7) pe_int))) pss_nil)
          (pss_one (ps_set (i := 4) sc_law_samples.nd rfl (Or.inl rfl) (pe_op op_cat (pv 4) (pe_call (ok_law_little T) (hr.mono (by decide)) (by rfl) T.g_law_little T.F_law_little.kp T.b_law_little .nil pass0 (pa_cons (pv 7) (pa_cons (pv 3) pa_nil)))))))))))
      (pss_one (ps_ret (pv 4)))))), ?_⟩
  obtain ⟨m, hm⟩ : ∃ m, (D + 7) / 8 = m := ⟨_, rfl⟩
  obtain ⟨f, hf⟩ : ∃ f : Int → List Int, (fun x => lowB (stv D x) ((D + 7) / 8)) = f := ⟨_, rfl⟩
  have hfl : ∀ x, (f x).length = m := fun x => by rw [← hf]; show (lowB _ _).length = m; rw [lowB_len, hm]
  have hm4 : 1 ≤ m ∧ m ≤ 4 := by omega
  unfold datB at k
  rw [hf] at k
  have hal : as.length ≤ 8 := by rw [hR.1]; exact h8
  refine q_asg (v := .int (m : Int)) (Ev.is (ev_I (ev_I0 (g := fun i j => .int (i + j)) (ev_var rfl) ev_c) ev_c ⟨by decide, by decide⟩) (congrArg V.int (by omega))) fun H1 e1 => ?_
  refine q_asgL (xs := []) (el_lst ea_nil (by decide)) fun pe H2 hpe e2 ge => ?_
  have e12 := e1.trans e2
  show tSeq _ _ _ [some (.ref L), some (.int (n : Int)), some (.int (D : Int)), some (.int (m : Int)), some (.ref pe), none, none, none] _
  have hbd : ∀ i, i ≤ 8 → (outF f rs i).length ≤ 256 := fun i hi => by
    rw [outF_len hfl]
    have h1 : rs.length * m ≤ 8 * 4 := Nat.mul_le_mul h8 hm4.2
    exact Nat.le_trans (Nat.mul_le_mul hi h1) (by decide)
  refine q_forR1 (n := (n : Int)) (ea_cons (ev_var rfl) ea_nil) (by omega) (fun i σ' H' => ∃ (pe : Addr) (z5 z6 z7 : Option V), σ' = [some (.ref L), some (.int (n : Int)), some (.int (D : Int)), some (.int (m : Int)), some (.ref pe), z5, z6, z7] ∧ H pe = none ∧ Ex H H' ∧ H' pe = some (.lst ((outF f rs i).map V.int))) (fun H3 e3 => ⟨pe, none, none, none, rfl, fresh_back e1 hpe, e12.trans e3, e3 _ _ ge⟩) ?_ ?_
  · rintro i σ' H3 hi ⟨pe, z5, z6, z7, rfl, hpe, e3, ge⟩
    have hil := hbd i (by omega)
    refine s_forLn (K := K) (a := L) (xs := as.map V.ref) (ev_var rfl) (sq_of (e3 _ _ gL)) (fun j σ' H' => ∃ (pe : Addr) (z6 z7 : Option V), σ' = [some (.ref L), some (.int (n : Int)), some (.int (D : Int)), some (.int (m : Int)), some (.ref pe), some (.int (i : Int)), z6, z7] ∧ H pe = none ∧ Ex H H' ∧ H' pe = some (.lst ((outF f rs i ++ ((col rs i).take j).flatMap f).map V.int))) (fun H4 e4 => ⟨pe, z6, z7, rfl, hpe, e3.trans e4, by rw [List.take_zero, List.flatMap_nil, List.append_nil]; exact e4 _ _ ge⟩) (fun j σ' H' _ h => by obtain ⟨_, _, _, _, _, ex, _⟩ := h; exact sq_of (ex _ _ gL)) ?_ ?_
    · rintro j x σ' H4 hx ⟨pe, z6, z7, rfl, hpe, e4, ge⟩
      obtain ⟨b, hbj, rfl⟩ := ref_at hx
      have hbi := (List.getElem?_eq_some_iff.mp hbj).1
      have hri : rs[j]? = some (rs[j]'(by have := hR.1; omega)) := List.getElem?_eq_getElem _
      have gb := e4 _ _ (hR.2 j b _ hbj hri)
      have hrm := List.mem_of_getElem? hri
      have hrn := hn _ hrm
      have hrb := hb _ hrm
      generalize rs[j]'(by have := hR.1; omega) = r at *
      have hc : (col rs i)[j]? = some (gx0 r i) := by unfold col; rw [List.getElem?_map, hri]; rfl
      have hri2 : r[i]? = some (gx0 r i) := by unfold gx0; rw [List.getD_eq_getElem?_getD, List.getElem?_eq_getElem (show i < r.length by omega)]; rfl
      have hvb := stv_bd hD4 hD (hrb _ (List.mem_of_getElem? hri2)).1 (hrb _ (List.mem_of_getElem? hri2)).2
      have hlt : (((col rs i).take j).flatMap f).length ≤ 32 := by
        rw [flat_lenI (m := m) hfl, List.length_take, col_len]
        exact Nat.le_trans (Nat.mul_le_mul (show min j rs.length ≤ 8 by omega) hm4.2) (by decide)
      have hfs := flat_snocI (f := f) hc
      generalize gx0 r i = v at *
      refine q_asg (v := .int (v * 2 ^ (8 * m - D))) (ev_shlN (x := v) (j := 8 * m - D) (ev_at (K := K) (n := (i : Int)) (Ev.s (ev_var rfl) (sq_of gb)) (ev_var rfl) (at_of (j := i) rfl (at_int hri2))) (Ev.is (ev_I0 (g := fun i j => .int (i - j)) (ev_I ev_c (ev_var rfl) (.inl (by decide))) (ev_var rfl)) (congrArg V.int (by omega))) (by omega) hvb) fun H5 e5 => ?_
      refine q_ifAsg (v := .int (stv D v)) (b := decide (m = 1)) (et_test (Ev.is (ev_eq (ev_var rfl) ev_c rfl) (congrArg V.bl (by by_cases h : m = 1 <;> simp [h] <;> omega)))) (fun h => Ev.is (ev_I0 (g := fun i j => .int (i + j)) (ev_var rfl) ev_c) (by unfold stv; rw [hm, if_pos (of_decide_eq_true h)])) (fun h => by unfold stv; rw [hm, if_neg (of_decide_eq_false h), Int.add_zero]; rfl) fun H6 e6 => ?_
      have e46 := e4.trans (e5.trans e6)
      refine s_asgL (xs := (outF f rs i ++ ((col rs i).take (j + 1)).flatMap f).map V.int) (EvL.is (el_cat (xs := (outF f rs i ++ ((col rs i).take j).flatMap f).map V.int) (Ev.r (ev_var rfl) ((e5.trans e6) _ _ ge)) (EvL.r (EvL.is (el_lb (n := stv D v) (c := m) (ev_var rfl) (ev_var rfl) (by omega)) (show _ = (f v).map V.int by rw [← hf]; show _ = (lowB _ _).map _; rw [hm]))) (by rw [List.length_map, List.length_map, List.length_append, hfl]; omega)) (by rw [hfs, ← List.append_assoc, List.map_append (l₂ := f v)])) fun pe2 H7 hpe2 e7 g7 => ⟨pe2, _, _, rfl, fresh_back e46 hpe2, e46.trans e7, g7⟩
    · rintro σ' H4 ⟨pe, z6, z7, rfl, hpe, e4, ge⟩
      refine ⟨pe, _, _, _, rfl, hpe, e4, ?_⟩
      rw [List.length_map, hR.1, ← col_len rs i, List.take_length] at ge
      rw [outF_succ]
      exact ge
  · rintro σ' H3 ⟨pe, z5, z6, z7, rfl, hpe, e3, ge⟩
    rw [Int.toNat_natCast] at ge
    exact s_ret (ev_var rfl) fun H4 e4 => k pe H4 hpe (e3.trans e4) (e4 _ _ ge)
def sp_lfl : Sp := fun vs H Q _ => ∃ (L : Addr) (as : List Addr) (css : List (List Int)), vs = [.ref L] ∧ H L = some (.lst (as.map V.ref)) ∧ RwAt H as css ∧ (∀ c ∈ css, c.length ≤ 1000) ∧ css.length ≤ 10 ∧ RetL ((filB css.flatten).map V.int) H Q
theorem flat_le {css : List (List Int)} {n : Nat} (h : ∀ c ∈ css, c.length ≤ n) : css.flatten.length ≤ css.length * n := by
  induction css with
  | nil => simp
  | cons c cs ih =>
    rw [List.flatten_cons, List.length_append, List.length_cons, Nat.succ_mul]
    have h1 := h c (List.mem_cons_self ..)
    have h2 := ih fun x hx => h x (List.mem_cons_of_mem _ hx)
    omega
theorem ok_law_file (T : TX K mg) : FnOk P w K mg base CX0 2 T.a_law_file T.d_law_file ["chunks"] sp_lfl := by
  refine T.F_law_file.ok sc_law_file (fun vs H Q E h => by obtain ⟨L, as, css, rfl, _⟩ := h; rfl) (fun cdv A outer s H vs Q E hr h => ?_)
  obtain ⟨L, as, css, rfl, gL, hR, hc1, hc2, k⟩ := h
  refine ⟨_, (pss_cons (ps_set (i := 1) sc_law_file.nd rfl (Or.inl rfl) (pe_lst (pa_cons pe_int (pa_cons pe_int (pa_cons pe_int (pa_cons pe_int pa_nil))))))
      (pss_cons (ps_for PassesOwn.never rfl (pi_list (pv 0)) (pg_name (i := 2) sc_law_file.nd rfl (Or.inl rfl)) (pss_one (ps_set (i := 1) sc_law_file.nd rfl (Or.inl rfl) (pe_op op_cat (pv 1) (pv 2)))))
      (pss_one (ps_ret (pe_op op_cat (pe_op op_cat (pe_lst (pa_cons pe_int (pa_cons pe_int (pa_cons pe_int (pa_cons pe_int pa_nil))))) (pe_call (ok_law_little T) (hr.mono (by decide)) (by rfl) T.g_law_little T.F_law_little.kp T.b_law_little .nil pass0 (pa_cons (pe_callB (r := rLenS K) call_len_seq (by rfl) T.m_len PySem.boot_len (pa_cons (pv 1) pa_nil)) (pa_cons pe_int pa_nil)))) (pv 1)))))), ?_⟩
  have hfl := flat_le hc1
  have hfl2 : css.length * 1000 ≤ 10 * 1000 := Nat.mul_le_mul_right _ hc2
  have htk : ∀ j, (css.take j).flatten.length ≤ 10000 := fun j => by
    have h1 := flat_le (css := css.take j) (n := 1000) fun c hc => hc1 c (List.mem_of_mem_take hc)
    have h2 : (css.take j).length * 1000 ≤ 10 * 1000 := Nat.mul_le_mul_right _ (by rw [List.length_take]; omega)
    omega
  refine q_asgL (xs := wavB.map V.int) (el_lst (ea_cons ev_c (ea_cons ev_c (ea_cons ev_c (ea_cons ev_c ea_nil)))) (by decide)) fun p H1 hp e1 g1 => ?_
  refine q_forLn (K := K) (a := L) (xs := as.map V.ref) (ev_var rfl) (sq_of (e1 _ _ gL)) (fun j σ' H' => ∃ (p : Addr) (z : Option V), σ' = [some (.ref L), some (.ref p), z] ∧ Ex H H' ∧ H' p = some (.lst ((wavB ++ (css.take j).flatten).map V.int))) (fun H2 e2 => ⟨p, none, rfl, e1.trans e2, e2 _ _ g1⟩) (fun j σ' H' _ h => by obtain ⟨_, _, _, ex, _⟩ := h; exact sq_of (ex _ _ gL)) ?_ ?_
  · rintro j x σ' H2 hx ⟨p, z, rfl, ex, gp⟩
    obtain ⟨b, hbj, rfl⟩ := ref_at hx
    have hbi := (List.getElem?_eq_some_iff.mp hbj).1
    have hri : css[j]? = some (css[j]'(by have := hR.1; omega)) := List.getElem?_eq_getElem _
    have gb := ex _ _ (hR.2 j b _ hbj hri)
    have hbl := hc1 _ (List.mem_of_getElem? hri)
    have := htk j
    refine s_asgL (xs := (wavB ++ (css.take (j + 1)).flatten).map V.int) (EvL.is (el_cat (Ev.r (ev_var rfl) gp) (Ev.r (ev_var rfl) gb) (by rw [List.length_map, List.length_append, List.length_map]; show 4 + _ + _ ≤ _; omega)) ?_) fun p2 H3 hp2 e3 g3 => ⟨p2, _, rfl, ex.trans e3, g3⟩
    rw [List.take_add_one, hri, List.flatten_append, map_app2]
    show _ = List.map V.int (wavB ++ ((css.take j).flatten ++ [css[j]'(by have := hR.1; omega)].flatten))
    rw [List.flatten_cons, List.flatten_nil, List.append_nil, List.append_assoc]
  · rintro σ' H2 ⟨p, z, rfl, ex, gp⟩
    rw [List.length_map, hR.1, List.take_length] at gp
    refine s_retL (EvL.is (el_cat (EvL.r (el_cat (EvL.r (el_lst (vs := rifB.map V.int) (ea_cons ev_c (ea_cons ev_c (ea_cons ev_c (ea_cons ev_c ea_nil)))) (by decide))) (EvL.r (el_lb (n := ((4 + css.flatten.length : Nat) : Int)) (c := 4) (Ev.is (ev_lenS (K := K) (Ev.s (ev_var rfl) (sq_of gp))) (by rw [List.length_map, List.length_append]; rfl)) ev_c (by decide))) (by rw [List.length_map, List.length_map, lowB_len]; decide))) (Ev.r (ev_var rfl) gp) (by rw [List.length_append, List.length_map, List.length_map, List.length_map, List.length_append, lowB_len]; show 4 + 4 + (4 + _) ≤ _; omega)) ?_) fun p2 H3 hp2 e3 g3 => k p2 H3 (fresh_back ex hp2) (ex.trans e3) g3
    unfold filB
    rw [map_app3]

-- K14E
/-! ### reading -/
theorem drop_step {ds a r : List Int} {p : Nat} (h : ds.drop p = a ++ r) : ds.drop (p + a.length) = r := by
  rw [← List.drop_drop, h, List.drop_left]
theorem low_step {ds r : List Int} {p c x : Nat} (h : ds.drop p = lowB (x : Int) c ++ r) (hx : x < 2 ^ (8 * c)) : HasN ds p c x ∧ ds.drop (p + c) = r := ⟨HasN.ofN h hx, by have := drop_step h; rwa [lowB_len] at this⟩
theorem s_retAPU {t : TA} {σ : L2.St} {H : Hp} {R : List V → Hp → Prop} {D : Ends} (h : EvAP t σ H R) (hl : ∀ vs G, R vs G → vs.length ≤ 100000) (k : ∀ p vs H1 H2, H p = none → Ex H H1 → R vs H1 → Ex H1 H2 → H2 p = some (.tup vs) → D.rt (.ref p) H2) : tRet (tTup t) D σ H := h H (Ex.refl H) _ fun vs H1 e hR => ⟨sz_of (hl vs H1 hR), fun p hp => k p vs H1 _ (fresh_back e hp) e hR (Ex.new hp) upd_same⟩
theorem ev_notin {σ : L2.St} {H : Hp} {ta tb : TE} {x : Int} {xs : List V} (ha : Ev ta σ H (.int x)) (hb : EvU tb σ H xs) (hf : xs.all flatV = true) (hi : inV (.int x) xs = true) : Ev (tOp (rIn K true) ta tb) σ H (.bl false) := fun H1 e Q q =>
  ha H1 e _ fun H2 e2 => hb H2 (e.trans e2) _ fun p H3 _ e3 g => ⟨p, xs, rfl, .inr (st_of g), rfl, hf, by rw [if_pos rfl, hi]; exact q H3 (e2.trans e3)⟩
theorem ev_notinT {σ : L2.St} {H : Hp} {ta tb : TE} {x : Int} {t : Addr} {xs : List V} (ha : Ev ta σ H (.int x)) (hb : Ev tb σ H (.ref t)) (hT : SqT K H t xs) (hf : xs.all flatV = true) (hi : inV (.int x) xs = true) : Ev (tOp (rIn K true) ta tb) σ H (.bl false) := fun H1 e Q q =>
  ha H1 e _ fun H2 e2 => hb H2 (e.trans e2) _ fun H3 e3 => ⟨t, xs, rfl, .inr (ex_t ((e.trans e2).trans e3) hT), rfl, hf, by rw [if_pos rfl, hi]; exact q H3 (e2.trans e3)⟩
def sp_rch (K : PySem.W.Frag) : Sp := fun vs H Q _ => ∃ (p : Addr) (ds nm cs r : List Int) (pl : Nat), vs = [.ref p, .int (pl : Int)] ∧ SqL K H p (ds.map V.int) ∧ ds.drop pl = chB nm cs ++ r ∧ nm.length = 4 ∧ cs.length ≤ 10000 ∧ ∀ T0 q H', Ex H H' → H' T0 = some (.tup [.ref q, .int ((pl + 8 : Nat) : Int), .int ((pl + 8 + cs.length : Nat) : Int)]) → H' q = some (.lst (nm.map V.int)) → Q (.ref T0) H'
theorem ok_read_chunk (T : TX K mg) : FnOk P w K mg base CX0 2 T.a_read_chunk T.d_read_chunk ["data", "place"] (sp_rch K) := by
  refine T.F_read_chunk.ok sc_read_chunk (fun vs H Q E h => by obtain ⟨p, ds, nm, cs, r, pl, rfl, _⟩ := h; rfl) (fun cdv A outer s0 H vs Q E hr h => ?_)
  obtain ⟨p, ds, nm, cs, r, pl, rfl, hS, hd, hn, hc, k⟩ := h
  refine ⟨_, (pss_cons (ps_set (i := 2) sc_read_chunk.nd rfl (Or.inl rfl) (pe_op op_add (pv 1) (pe_glob (by rfl) T.c_CHUNK_HEAD T.r_CHUNK_HEAD)))
      (pss_cons (ps_if (pt_cmpR op_gt (pv 2) (pe_callB (r := rLenS K) call_len_seq (by rfl) T.m_len PySem.boot_len (pa_cons (pv 0) pa_nil)) (nomark _)) (pss_one ps_never) pss_nil)
      (pss_cons (ps_set (i := 3) sc_read_chunk.nd rfl (Or.inl rfl) (pe_op op_add (pv 2) (pe_call (ok_little_number T) (hr.mono (by decide)) (by rfl) T.g_little_number T.F_little_number.kp T.b_little_number .nil pass0 (pa_cons (pv 0) (pa_cons (pe_op op_add (pv 1) pe_int) (pa_cons pe_int pa_nil))))))
      (pss_cons (ps_if (pt_cmpR op_gt (pv 3) (pe_callB (r := rLenS K) call_len_seq (by rfl) T.m_len PySem.boot_len (pa_cons (pv 0) pa_nil)) (nomark _)) (pss_one ps_never) pss_nil)
      (pss_one (ps_ret (pe_tup (pa_cons (pe_slice (r := rSlL K) sl_list (pv 0) (po_some (pv 1)) (po_some (pe_op op_add (pv 1) pe_int))) (pa_cons (pv 2) (pa_cons (pv 3) pa_nil)))))))))), ?_⟩
  have hlen : ds.length = pl + (chB nm cs ++ r).length := by
    have h1 := congrArg List.length hd
    rw [List.length_drop] at h1
    rw [← h1]
    have h2 : 0 < (chB nm cs ++ r).length := by rw [List.length_append, chB_len]; omega
    omega
  rw [List.length_append, chB_len, hn] at hlen
  have hd0 := hd
  unfold chB at hd0
  rw [List.append_assoc, List.append_assoc] at hd0
  have h4 := drop_step hd0
  rw [hn] at h4
  obtain ⟨hN, h8⟩ := low_step h4 (show cs.length < 2 ^ (8 * 4) from Nat.lt_of_le_of_lt hc (by decide))
  have len : ∀ {σ : L2.St} {G : Hp}, σ[0]? = some (some (.ref p)) → Ex H G → Ev (tCB (rLenS K) (tCons (tVar 0) tNil)) σ G (.int (ds.length : Int)) := fun h e => Ev.is (ev_lenS (K := K) (Ev.s (ev_var h) (ex_l e hS))) (by rw [List.length_map])
  refine q_asg (v := .int ((pl + 8 : Nat) : Int)) (Ev.is (ev_I0 (g := fun i j => .int (i + j)) (ev_var rfl) ev_c) (congrArg V.int (by omega))) fun H1 e1 => ?_
  refine q_when (b := false) (et_is (et_test (ev_I0 (g := fun i j => .bl (decide (j < i))) (ev_var rfl) (len rfl e1))) (decide_eq_false (by omega))) (fun hb => by cases hb) fun _ H2 e2 => ?_
  have e12 := e1.trans e2
  refine q_asg (v := .int ((pl + 8 + cs.length : Nat) : Int)) (Ev.is (ev_I0 (g := fun i j => .int (i + j)) (ev_var rfl) (ev_lnum (Ev.s (ev_var rfl) (ex_l e12 hS)) (Ev.is (ev_I0 (g := fun i j => .int (i + j)) (ev_var rfl) ev_c) (congrArg V.int (a₂ := ((pl + 4 : Nat) : Int)) (by omega))) (Ev.is ev_c (congrArg V.int (a₂ := ((4 : Nat) : Int)) rfl)) (by decide) hN (Nat.lt_of_le_of_lt hc (by decide)))) (congrArg V.int (by omega))) fun H3 e3 => ?_
  have e13 := e12.trans e3
  refine q_when (b := false) (et_is (et_test (ev_I0 (g := fun i j => .bl (decide (j < i))) (ev_var rfl) (len rfl e13))) (decide_eq_false (by omega))) (fun hb => by cases hb) fun _ H4 e4 => ?_
  have e14 := e13.trans e4
  refine s_retAPU (ap_l (xs := nm.map V.int) (EvL.is (el_mid (i := pl) (j := pl + 4) (Ev.s (ev_var rfl) (ex_l e14 hS)) (ev_var rfl) (Ev.is (ev_I0 (g := fun i j => .int (i + j)) (ev_var rfl) ev_c) (congrArg V.int (by omega)))) (by rw [Nat.add_sub_cancel_left, hd0, ← hn, List.take_left])) (ap_ev (ev_var rfl) (ap_ev (ev_var rfl) ap_nil))) (fun vs G hR => by obtain ⟨_, _, rfl, _, _, _, rfl, _, rfl, rfl⟩ := hR; exact Nat.le_of_ble_eq_true rfl) fun T0 vs G G2 _ eG hR eG2 gT => ?_
  obtain ⟨q, r1, rfl, _, gq, r2, rfl, r3, rfl, rfl⟩ := hR
  exact k T0 q G2 (e14.trans (eG.trans eG2)) gT (eG2 _ _ gq)
def sp_rdp (K : PySem.W.Frag) : Sp := fun vs H Q _ => ∃ (p : Addr) (ds r : List Int) (st D : Nat), vs = [.ref p, .int (st : Int), .int ((8 * ((D + 7) / 8) : Nat) : Int)] ∧ SqL K H p (ds.map V.int) ∧ ds.drop (st + 18) = lowB (D : Int) 2 ++ (lowB 0 4 ++ (sgnB ++ r)) ∧ 4 ≤ D ∧ D ≤ 32 ∧ RetV (.int (D : Int)) H Q
theorem ok_read_depth (T : TX K mg) : FnOk P w K mg base CX0 2 T.a_read_depth T.d_read_depth ["data", "start", "bits"] (sp_rdp K) := by
  refine T.F_read_depth.ok sc_read_depth (fun vs H Q E h => by obtain ⟨p, ds, r, st, D, rfl, _⟩ := h; rfl) (fun cdv A outer s0 H vs Q E hr h => ?_)
  obtain ⟨p, ds, r, st, D, rfl, hS, hd, h4, h32, k⟩ := h
  refine ⟨_, (pss_cons (ps_set (i := 3) sc_read_depth.nd rfl (Or.inl rfl) (pe_call (ok_little_number T) (hr.mono (by decide)) (by rfl) T.g_little_number T.F_little_number.kp T.b_little_number .nil pass0 (pa_cons (pv 0) (pa_cons (pe_op op_add (pv 1) (pe_glob (by rfl) T.c_DEPTH T.r_DEPTH)) (pa_cons pe_int pa_nil)))))
      (pss_cons (ps_if (PW.pt (pw_or (pt_cmpR op_lt (pv 3) pe_int (nomark _)) (pw_or (pt_cmpR op_gt (pv 3) pe_int (nomark _)) (pw_or1 (pt_cmpR op_ne (pe_op op_mul pe_int (pe_call (ok_sample_bytes T) (hr.mono (by decide)) (by rfl) T.g_sample_bytes T.F_sample_bytes.kp T.b_sample_bytes .nil pass0 (pa_cons (pv 3) pa_nil))) (pv 2) (nomark _)))))) (pss_one ps_never) pss_nil)
      (pss_cons (ps_if (pt_cmpR (op_neD (hu64 hr)) (pe_slice (r := rSlL K) sl_list (pv 0) (po_some (pe_op op_add (pv 1) (pe_glob (by rfl) T.c_SIGN T.r_SIGN))) (po_some (pe_op op_add (pv 1) (pe_glob (by rfl) T.c_EXTENDED_LENGTH T.r_EXTENDED_LENGTH)))) (pe_callTy (r := rListS K) call_list_of (by rfl) T.m_list PyProof.Rows.boot_list (pa_cons (pe_glob (v := V.ref T.A_SIGN_BYTES) (by rfl) T.c_SIGN_BYTES rfl) pa_nil)) (nomark _)) (pss_one ps_never) pss_nil)
      (pss_one (ps_ret (pv 3)))))), ?_⟩
  obtain ⟨hN, hd1⟩ := low_step hd (show D < 2 ^ (8 * 2) from Nat.lt_of_le_of_lt h32 (by decide))
  obtain ⟨_, hd2⟩ := low_step (x := 0) hd1 (by decide)
  refine q_asg (v := .int (D : Int)) (ev_lnum (Ev.s (ev_var rfl) hS) (Ev.is (ev_I0 (g := fun i j => .int (i + j)) (ev_var rfl) ev_c) (congrArg V.int (a₂ := ((st + 18 : Nat) : Int)) (by omega))) (Ev.is ev_c (congrArg V.int (a₂ := ((2 : Nat) : Int)) rfl)) (by decide) hN (Nat.lt_of_le_of_lt h32 (by decide))) fun H1 e1 => ?_
  refine q_when (b := false) (et_is (et_or (a := false) (b := false) (et_is (et_test (ev_I0 (g := fun i j => .bl (decide (i < j))) (ev_var rfl) ev_c)) (decide_eq_false (by omega))) fun _ => et_or (a := false) (b := false) (et_is (et_test (ev_I0 (g := fun i j => .bl (decide (j < i))) (ev_var rfl) ev_c)) (decide_eq_false (by omega))) fun _ => et_is (et_test (ev_ne (x := .int ((8 * ((D + 7) / 8) : Nat) : Int)) (Ev.is (ev_I ev_c (ev_smb (ev_var rfl)) (.inl (by decide))) (congrArg V.int (by omega))) (ev_var rfl) rfl)) (by rw [decide_eq_true rfl]; rfl)) rfl) (fun hb => by cases hb) fun _ H2 e2 => ?_
  have e12 := e1.trans e2
  refine q_when (b := false) (et_is (et_test (ev_neI (K := K) (ns := sgnB) (ms := sgnB) (EvR.s (EvL.r (EvL.is (el_mid (i := st + 24) (j := st + 40) (Ev.s (ev_var rfl) (ex_l e12 hS)) (Ev.is (ev_I0 (g := fun i j => .int (i + j)) (ev_var rfl) ev_c) (congrArg V.int (by omega))) (Ev.is (ev_I0 (g := fun i j => .int (i + j)) (ev_var rfl) ev_c) (congrArg V.int (by omega)))) (by rw [show st + 40 - (st + 24) = 16 by omega, show st + 24 = st + 18 + 2 + 4 by omega, hd2]; rfl)))) (EvR.s (EvL.r (el_ofP (xs := sgnB.map V.int) ev_c (T.s_SIGN_BYTES _)))))) (by rw [decide_eq_true rfl]; rfl)) (fun hb => by cases hb) fun _ H3 e3 => ?_
  exact s_ret (ev_var rfl) fun H4 e4 => k.go (e12.trans (e3.trans e4))
def sp_rfm (K : PySem.W.Frag) : Sp := fun vs H Q _ => ∃ (p : Addr) (ds r : List Int) (st rate D cn : Nat), vs = [.ref p, .int (st : Int), .int ((st + (frmB rate D cn).length : Nat) : Int)] ∧ SqL K H p (ds.map V.int) ∧ ds.drop st = frmB rate D cn ++ r ∧ 1 ≤ cn ∧ cn ≤ 8 ∧ 4 ≤ D ∧ D ≤ 32 ∧ rate ≤ 1048575 ∧ ∀ T0 H', Ex H H' → H' T0 = some (.tup [.int (rate : Int), .int (cn : Int), .int (D : Int)]) → Q (.ref T0) H'
theorem ok_read_form (T : TX K mg) : FnOk P w K mg base CX0 3 T.a_read_form T.d_read_form ["data", "start", "stop"] (sp_rfm K) := by
  refine T.F_read_form.ok sc_read_form (fun vs H Q E h => by obtain ⟨p, ds, r, st, rate, D, cn, rfl, _⟩ := h; rfl) (fun cdv A outer s0 H vs Q E hr h => ?_)
  obtain ⟨p, ds, r, st, rate, D, cn, rfl, hS, hd, h1, h8, h4, h32, hrt, k⟩ := h
  refine ⟨_, (pss_cons (ps_if (pt_cmpR op_lt (pe_op op_sub (pv 2) (pv 1)) (pe_glob (by rfl) T.c_PLAIN_LENGTH T.r_PLAIN_LENGTH) (nomark _)) (pss_one ps_never) pss_nil)
      (pss_cons (ps_set (i := 3) sc_read_form.nd rfl (Or.inl rfl) (pe_call (ok_little_number T) (hr.mono (by decide)) (by rfl) T.g_little_number T.F_little_number.kp T.b_little_number .nil pass0 (pa_cons (pv 0) (pa_cons (pv 1) (pa_cons pe_int pa_nil)))))
      (pss_cons (ps_if (pt_cmpR op_notIn_seq (pv 3) (pe_tup (pa_cons (pe_glob (by rfl) T.c_PLAIN T.r_PLAIN) (pa_cons (pe_glob (by rfl) T.c_EXTENDED T.r_EXTENDED) pa_nil))) (by with_unfolding_all rfl)) (pss_one ps_never) pss_nil)
      (pss_cons (ps_if (PW.pt (pw_and (pt_cmpR op_eq (pv 3) (pe_glob (by rfl) T.c_EXTENDED T.r_EXTENDED) (nomark _)) (pw_and1 (pt_cmpR op_lt (pe_op op_sub (pv 2) (pv 1)) (pe_glob (by rfl) T.c_EXTENDED_LENGTH T.r_EXTENDED_LENGTH) (nomark _))))) (pss_one ps_never) pss_nil)
      (pss_cons (ps_set (i := 4) sc_read_form.nd rfl (Or.inl rfl) (pe_call (ok_little_number T) (hr.mono (by decide)) (by rfl) T.g_little_number T.F_little_number.kp T.b_little_number .nil pass0 (pa_cons (pv 0) (pa_cons (pe_op op_add (pv 1) (pe_glob (by rfl) T.c_CHANNELS T.r_CHANNELS)) (pa_cons pe_int pa_nil)))))
      (pss_cons (ps_if (PW.pt (pw_or (pt_cmpR op_lt (pv 4) pe_int (nomark _)) (pw_or1 (pt_cmpR op_gt (pv 4) pe_int (nomark _))))) (pss_one ps_never) pss_nil)
      (pss_cons (ps_set (i := 5) sc_read_form.nd rfl (Or.inl rfl) (pe_call (ok_little_number T) (hr.mono (by decide)) (by rfl) T.g_little_number T.F_little_number.kp T.b_little_number .nil pass0 (pa_cons (pv 0) (pa_cons (pe_op op_add (pv 1) (pe_glob (by rfl) T.c_RATE T.r_RATE)) (pa_cons pe_int pa_nil)))))
      (pss_cons (ps_if (pt_cmpR op_gt (pv 5) (pe_glob (by rfl) T.c_MOST_RATE T.r_MOST_RATE) (nomark _)) (pss_one ps_never) pss_nil)
      (pss_cons (ps_set (i := 6) sc_read_form.nd rfl (Or.inl rfl) (pe_call (ok_little_number T) (hr.mono (by decide)) (by rfl) T.g_little_number T.F_little_number.kp T.b_little_number .nil pass0 (pa_cons (pv 0) (pa_cons (pe_op op_add (pv 1) (pe_glob (by rfl) T.c_SAMPLE_BITS T.r_SAMPLE_BITS)) (pa_cons pe_int pa_nil)))))
      (pss_cons (ps_if (pt_cmpR op_notIn_seq (pv 6) (pe_glob (v := V.ref T.A_SAMPLE_SIZES) (by rfl) T.c_SAMPLE_SIZES rfl) (by with_unfolding_all rfl)) (pss_one ps_never) pss_nil)
      (pss_cons (ps_if (pt_cmpR op_ne (pe_call (ok_little_number T) (hr.mono (by decide)) (by rfl) T.g_little_number T.F_little_number.kp T.b_little_number .nil pass0 (pa_cons (pv 0) (pa_cons (pe_op op_add (pv 1) (pe_glob (by rfl) T.c_ROW_BYTES T.r_ROW_BYTES)) (pa_cons pe_int pa_nil)))) (pe_op op_fdiv (pe_op op_mul (pv 4) (pv 6)) pe_int) (nomark _)) (pss_one ps_never) pss_nil)
      (pss_cons (ps_set (i := 7) sc_read_form.nd rfl (Or.inl rfl) (pe_ifExp (pt_cmpR op_eq (pv 3) (pe_glob (by rfl) T.c_PLAIN T.r_PLAIN) (nomark _)) (pv 6) (pe_call (ok_read_depth T) (hr.mono (by decide)) (by rfl) T.g_read_depth T.F_read_depth.kp T.b_read_depth .nil pass0 (pa_cons (pv 0) (pa_cons (pv 1) (pa_cons (pv 6) pa_nil))))))
      (pss_one (ps_ret (pe_tup (pa_cons (pv 5) (pa_cons (pv 4) (pa_cons (pv 7) pa_nil)))))))))))))))))), ?_⟩
  obtain ⟨m, hm⟩ : ∃ m, (D + 7) / 8 = m := ⟨_, rfl⟩
  have hm4 : 1 ≤ m ∧ m ≤ 4 := by omega
  have hcm : cn * m ≤ 32 := Nat.mul_le_mul h8 hm4.2
  have hrcm : rate * cn * m ≤ 1048575 * 32 := by rw [Nat.mul_assoc]; exact Nat.mul_le_mul hrt hcm
  have htg : tagN D cn ≤ 65534 := by unfold tagN; split <;> omega
  rw [frmB_len]
  unfold frmB at hd
  simp only [List.append_assoc] at hd
  rw [hm] at hd
  obtain ⟨n0, d2⟩ := low_step hd (show tagN D cn < 2 ^ (8 * 2) from Nat.lt_of_le_of_lt htg (by decide))
  obtain ⟨n2, d4⟩ := low_step d2 (show cn < 2 ^ (8 * 2) from Nat.lt_of_le_of_lt h8 (by decide))
  obtain ⟨n4, d8⟩ := low_step d4 (show rate < 2 ^ (8 * 4) from Nat.lt_of_le_of_lt hrt (by decide))
  obtain ⟨_, d12⟩ := low_step d8 (show rate * cn * m < 2 ^ (8 * 4) from Nat.lt_of_le_of_lt hrcm (by decide))
  obtain ⟨n12, d14⟩ := low_step d12 (show cn * m < 2 ^ (8 * 2) from Nat.lt_of_le_of_lt hcm (by decide))
  obtain ⟨n14, d16⟩ := low_step d14 (show 8 * m < 2 ^ (8 * 2) from Nat.lt_of_le_of_lt (show 8 * m ≤ 32 by omega) (by decide))
  clear hd d2 d4 d8 d12 d14
  have num : ∀ {σ : L2.St} {G : Hp} {E : XK} {t2 : TE} {off x c : Nat}, σ[0]? = some (some (.ref p)) → Ex H G → Ev t2 σ G (.int ((st + off : Nat) : Int)) → HasN ds (st + off) c x → x < 2 ^ (8 * c) → c ≤ 4 → Ev (tCall (sp_lnum K) [] E (tCons (tVar 0) (tCons t2 (tCons (tC (.int (c : Int))) tNil)))) σ G (.int (x : Int)) := fun h e h2 hN hx hc => ev_lnum (Ev.s (ev_var h) (ex_l e hS)) h2 ev_c hc hN hx
  have off : ∀ {σ : L2.St} {G : Hp} {o : Nat}, σ[1]? = some (some (.int (st : Int))) → Ev (tOp (rI0 fun i j => .int (i + j)) (tVar 1) (tC (.int (o : Int)))) σ G (.int ((st + o : Nat) : Int)) := fun h => Ev.is (ev_I0 (g := fun i j => .int (i + j)) (ev_var h) ev_c) (congrArg V.int (by omega))
  refine q_when (b := false) (et_is (et_test (ev_I0 (g := fun i j => .bl (decide (i < j))) (ev_I0 (g := fun i j => .int (i - j)) (ev_var rfl) (ev_var rfl)) ev_c)) (decide_eq_false (by split <;> omega))) (fun hb => by cases hb) fun _ H1 e1 => ?_
  refine q_asg (v := .int (tagN D cn : Int)) (num (off := 0) (c := 2) rfl e1 (ev_var rfl) n0 (Nat.lt_of_le_of_lt htg (by decide)) (by decide)) fun H2 e2 => ?_
  have e12 := e1.trans e2
  refine q_when (b := false) (et_is (et_test (ev_notin (xs := [.int 1, .int 65534]) (ev_var rfl) (eu_tup (ea_cons ev_c (ea_cons ev_c ea_nil)) (by decide)) rfl (by unfold tagN; split <;> rfl))) rfl) (fun hb => by cases hb) fun _ H3 e3 => ?_
  have e13 := e12.trans e3
  refine q_when (b := false) (et_is (et_and (a := !pln D cn) (b := false) (et_is (et_test (ev_eq (ev_var rfl) ev_c rfl)) (by unfold tagN; cases pln D cn <;> rfl)) fun hb => et_is (et_test (ev_I0 (g := fun i j => .bl (decide (i < j))) (ev_I0 (g := fun i j => .int (i - j)) (ev_var rfl) (ev_var rfl)) ev_c)) (decide_eq_false (by rw [if_neg (by rw [← Bool.not_not (pln D cn), hb]; decide)]; omega))) (by rw [Bool.and_false])) (fun hb => by cases hb) fun _ H4 e4 => ?_
  have e14 := e13.trans e4
  refine q_asg (v := .int (cn : Int)) (num (off := 2) (c := 2) rfl e14 (off (o := 2) rfl) n2 (Nat.lt_of_le_of_lt h8 (by decide)) (by decide)) fun H5 e5 => ?_
  have e15 := e14.trans e5
  refine q_when (b := false) (et_is (et_or (a := false) (b := false) (et_is (et_test (ev_I0 (g := fun i j => .bl (decide (i < j))) (ev_var rfl) ev_c)) (decide_eq_false (by omega))) fun _ => et_is (et_test (ev_I0 (g := fun i j => .bl (decide (j < i))) (ev_var rfl) ev_c)) (decide_eq_false (by omega))) rfl) (fun hb => by cases hb) fun _ H6 e6 => ?_
  have e16 := e15.trans e6
  refine q_asg (v := .int (rate : Int)) (num (off := 4) (c := 4) rfl e16 (off (o := 4) rfl) n4 (Nat.lt_of_le_of_lt hrt (by decide)) (by decide)) fun H7 e7 => ?_
  have e17 := e16.trans e7
  show tSeq _ _ _ [some (.ref p), some (.int (st : Int)), some (.int ((st + if pln D cn = true then 16 else 40 : Nat) : Int)), some (.int (tagN D cn : Int)), some (.int (cn : Int)), some (.int (rate : Int)), none, none] _
  refine q_when (b := false) (et_is (et_test (ev_I0 (g := fun i j => .bl (decide (j < i))) (ev_var rfl) ev_c)) (decide_eq_false (by omega))) (fun hb => by cases hb) fun _ H8 e8 => ?_
  have e18 := e17.trans e8
  refine q_asg (v := .int ((8 * m : Nat) : Int)) (num (off := 14) (c := 2) rfl e18 (off (o := 14) rfl) n14 (Nat.lt_of_le_of_lt (show 8 * m ≤ 32 by omega) (by decide)) (by decide)) fun H9 e9 => ?_
  have e19 := e18.trans e9
  refine q_when (b := false) (et_is (et_test (ev_notinT (xs := [.int 8, .int 16, .int 24, .int 32]) (ev_var rfl) ev_c (T.s_SAMPLE_SIZES _) rfl (by
    have : m = 1 ∨ m = 2 ∨ m = 3 ∨ m = 4 := by omega
    rcases this with rfl | rfl | rfl | rfl <;> rfl))) rfl) (fun hb => by cases hb) fun _ H10 e10 => ?_
  have e110 := e19.trans e10
  refine q_when (b := false) (et_is (et_test (ev_ne (x := .int ((cn * m : Nat) : Int)) (y := .int ((cn * m : Nat) : Int)) (num (off := 12) (c := 2) rfl e110 (off (o := 12) rfl) n12 (Nat.lt_of_le_of_lt hcm (by decide)) (by decide)) (Ev.is (ev_I (ev_I (ev_var rfl) (ev_var rfl) (.inl (by omega))) ev_c ⟨by decide, by decide⟩) (congrArg V.int (by
    rw [← Int.natCast_mul, show cn * (8 * m) = 8 * (cn * m) by rw [Nat.mul_left_comm], Int.natCast_mul]
    show ((8 : Int) * _) / 8 = _
    omega))) rfl)) (by rw [decide_eq_true rfl]; rfl)) (fun hb => by cases hb) fun _ H11 e11 => ?_
  have e111 := e110.trans e11
  refine q_asg (v := .int (D : Int)) (ev_if (b := pln D cn) (et_is (et_test (ev_eq (ev_var rfl) ev_c rfl)) (by unfold tagN; cases pln D cn <;> rfl)) (fun hb => Ev.is (ev_var rfl) (congrArg V.int (by
    unfold pln at hb
    rw [Bool.and_eq_true, decide_eq_true_eq] at hb
    have := hb.1
    omega))) (fun hb => ev_call (ea_cons (ev_var rfl) (ea_cons (ev_var rfl) (ea_cons (ev_var rfl) ea_nil))) fun G e Q2 q2 _ => ⟨p, ds, r, st, D, by rw [hm]; rfl, ex_l (e111.trans e) hS, (by
      unfold endB at d16
      rw [hb, if_neg (by decide)] at d16
      simp only [List.append_assoc] at d16
      have := (low_step (x := 22) d16 (by decide)).2
      rw [show st + 2 + 2 + 4 + 4 + 2 + 2 + 2 = st + 18 by omega] at this
      exact this), h4, h32, q2⟩)) fun H12 e12 => ?_
  have e112 := e111.trans e12
  refine s_retAPU (ap_ev (ev_var rfl) (ap_ev (ev_var rfl) (ap_ev (ev_var rfl) ap_nil))) (fun vs G hR => by obtain ⟨_, rfl, _, rfl, _, rfl, rfl⟩ := hR; exact Nat.le_of_ble_eq_true rfl) fun T0 vs G G2 _ eG hR eG2 gT => ?_
  obtain ⟨_, rfl, _, rfl, _, rfl, rfl⟩ := hR
  exact k T0 G2 (e112.trans (eG.trans eG2)) gT

-- K14F
/-! ### the samples -/
theorem rg_c {i : Int} {n c : Nat} (hi : 0 ≤ i ∧ i ≤ 1000000) (hn : n ≤ 10000) (hc : 1 ≤ c ∧ c ≤ 4) : RgC i (i + ((c * n : Nat) : Int)) (c : Int) n := by
  have h : c = 1 ∨ c = 2 ∨ c = 3 ∨ c = 4 := by omega
  have hs : Builtin.Range.rangeSize i (i + ((c * n : Nat) : Int)) (c : Int) = (n : Int) := by
    unfold Builtin.Range.rangeSize
    rcases h with rfl | rfl | rfl | rfl <;> (rw [if_pos (by decide)]; split <;> omega)
  refine ⟨by rcases h with rfl | rfl | rfl | rfl <;> decide, by rcases h with rfl | rfl | rfl | rfl <;> decide, ?_, hs⟩
  unfold Builtin.Range.small
  rw [hs]
  have h1 : ((c : Int) > 0) = True := by simp; omega
  have h2 : c * n ≤ 4 * 10000 := Nat.mul_le_mul hc.2 hn
  simp only [Builtin.Range.rangeFitsLong, Bool.and_eq_true, Bool.or_eq_true, decide_eq_true_eq, beq_iff_eq, h1, if_true]
  omega
def smpL (rs : List (List Int)) (n : Nat) : List Int := (List.range n).flatMap fun i => col rs i
theorem smpL_len (rs : List (List Int)) (n : Nat) : (smpL rs n).length = n * rs.length := by
  unfold smpL
  rw [flat_lenI (m := rs.length) (fun i => col_len rs i), List.length_range]
theorem outF_smp (f : Int → List Int) (rs : List (List Int)) (n : Nat) : outF f rs n = (smpL rs n).flatMap f := by
  unfold outF smpL
  rw [List.flatMap_assoc]
theorem smp_at {rs : List (List Int)} {n i k : Nat} {r : List Int} (hi : i < n) (hk : rs[k]? = some r) : (smpL rs n)[i * rs.length + k]? = some (gx0 r i) := by
  have hkl := (List.getElem?_eq_some_iff.mp hk).1
  unfold smpL
  rw [flat_atI (w := rs.length) (fun i => col_len rs i) (List.range n) i k i (List.getElem?_range hi) hkl]
  unfold col
  rw [List.getElem?_map, hk]
  rfl
theorem smp_mem {rs : List (List Int)} {n : Nat} (hn : ∀ r ∈ rs, r.length = n) {x : Int} (hx : x ∈ smpL rs n) : ∃ r ∈ rs, x ∈ r := by
  obtain ⟨i, hi, hx⟩ := List.mem_flatMap.mp hx
  exact col_mem hn (List.mem_range.mp hi) hx
theorem flat_drop {α β : Type} {f : α → List β} {m : Nat} (hf : ∀ x, (f x).length = m) : ∀ (l : List α) (q : Nat) (x : α) (r : List β), l[q]? = some x → (l.flatMap f ++ r).drop (q * m) = f x ++ ((l.drop (q + 1)).flatMap f ++ r)
  | y :: l, 0, x, r, h => by
    cases h
    rw [Nat.zero_mul, List.drop_zero, List.flatMap_cons, List.append_assoc]
    rfl
  | y :: l, q + 1, x, r, h => by
    rw [List.flatMap_cons, List.append_assoc, Nat.succ_mul, Nat.add_comm (q * m) m, ← List.drop_drop, List.drop_left' (hf y)]
    exact flat_drop hf l q x r h
theorem el_stp {σ : L2.St} {H : Hp} {te ta tc : TE} {xs : List V} {i c : Nat} (h1 : EvS K te σ H xs) (h2 : Ev ta σ H (.int (i : Int))) (h3 : Ev tc σ H (.int (c : Int))) (hc : 0 < c) : EvL (SL.tStp K te ta tc) σ H (SL.stp xs i c) := fun H1 e Q q =>
  h1 H1 e _ fun p H2 e2 hp => h2 H2 (e.trans e2) _ fun H3 e3 => ⟨_, rfl, h3 H3 ((e.trans e2).trans e3) _ fun H4 e4 => ⟨_, rfl, p, xs, i, c, rfl, rfl, rfl, hc, ex_l (e3.trans e4) hp, fun l hl => q l _ (fresh_back ((e2.trans e3).trans e4) hl) (((e2.trans e3).trans e4).trans (Ex.new hl)) upd_same⟩⟩
theorem q_unp3 {te : TE} {i j l : Nat} {D : Ends} {tz : TS} {σ : L2.St} {H : Hp} {t : Addr} {x y z : V} (h : Ev te σ H (.ref t)) (hT : SqT K H t [x, y, z]) (k : ∀ H1, Ex H H1 → tz D (((σ.set i (some x)).set j (some y)).set l (some z)) H1) : tSeq (tAsg te (gTup K 3 (gCons (gName i) (gCons (gName j) (gCons (gName l) gNil))))) tz D σ H :=
  h H (Ex.refl H) _ fun H1 e1 => ⟨t, [x, y, z], rfl, ex_t e1 hT, rfl, x, [y, z], rfl, y, [z], rfl, z, [], rfl, rfl, k H1 e1⟩
def sp_rss (K : PySem.W.Frag) (C : Addr) : Sp := fun vs H Q _ => ∃ (p T0 : Addr) (ds r : List Int) (st rate D n : Nat) (rs : List (List Int)), vs = [.ref p, .int (st : Int), .int ((st + (datB D rs n).length : Nat) : Int), .ref T0] ∧ SqL K H p (ds.map V.int) ∧ SqT K H T0 [.int (rate : Int), .int (rs.length : Int), .int (D : Int)] ∧ ds.drop st = datB D rs n ++ r ∧ 1 ≤ rs.length ∧ rs.length ≤ 8 ∧ n ≤ 8 ∧ 4 ≤ D ∧ D ≤ 32 ∧ st ≤ 1000000 ∧ Rws D n rs ∧ ∀ a H', Ex H H' → AudAt C H' a rate D rs → Q (.ref a) H'
theorem ok_read_samples (T : TX K mg) : FnOk P w K mg base CX0 3 T.a_read_samples T.d_read_samples ["data", "start", "stop", "form"] (sp_rss K T.C_Audio) := by
  refine T.F_read_samples.ok sc_read_samples (fun vs H Q E h => by obtain ⟨p, T0, ds, r, st, rate, D, n, rs, rfl, _⟩ := h; rfl) (fun cdv A outer s0 H vs Q E hr h => ?_)
  obtain ⟨p, T0, ds, r, st, rate, D, n, rs, rfl, hS, hT, hd, h1, h8, hn8, h4, h32, hst, ⟨hn, hb⟩, k⟩ := h
  refine ⟨_, (pss_cons (ps_asg (pv 3) (pg_tup rfl (pgs_cons (pg_name (i := 4) sc_read_samples.nd rfl (Or.inl rfl)) (pgs_cons (pg_name (i := 5) sc_read_samples.nd rfl (Or.inr rfl)) (pgs_cons (pg_name (i := 6) sc_read_samples.nd rfl (Or.inr rfl)) pgs_nil)))))
      (pss_cons (ps_set (i := 7) sc_read_samples.nd rfl (Or.inr rfl) (pe_call (ok_sample_bytes T) (hr.mono (by decide)) (by rfl) T.g_sample_bytes T.F_sample_bytes.kp T.b_sample_bytes .nil pass0 (pa_cons (pv 6) pa_nil)))
      (pss_cons (ps_if (pt_cmpR op_ne (pe_op op_mod (pe_op op_sub (pv 2) (pv 1)) (pe_op op_mul (pv 5) (pv 7))) pe_int (nomark _)) (pss_one ps_never) pss_nil)
      (pss_cons (ps_set (i := 8) sc_read_samples.nd rfl (Or.inr rfl) (pe_lc (own := [("place", 9)]) (g := gName 9) (tt := tYes) rfl sc_read_samples.nd (pi_range3 (by rfl) T.m_range (pa_cons (pv 1) (pa_cons (pv 2) (pa_cons (pv 7) pa_nil)))) (blkOk_by (N := ["data", "start", "stop", "form", "rate", "count", "depth", "size", "samples", "place", "at"]) (sc := defScope s_read_samples) (by decide +kernel)) (fun _ _ _ _ _ => pg_name (i := 9) sc_read_samples.nd rfl (Or.inl rfl)) (fun _ _ _ _ _ => pts_nil) (fun _ _ _ _ _ => (pe_call (ok_read_sample T) (hr.mono (by decide)) (by rfl) T.g_read_sample T.F_read_sample.kp T.b_read_sample .nil pass0 (pa_cons (pv 0) (pa_cons (pv 9) (pa_cons (pv 7) (pa_cons (pv 6) pa_nil))))))))
      (pss_one (ps_ret (pe_make T.M_Audio (ok_Audio_init T) (hr.mono (by decide)) (by rfl) T.g_Audio T.b_Audio_init .nil pass0 (pa_cons (pv 4) (pa_cons (pv 6) (pa_cons (pe_lc (own := [("at", 10)]) (g := gName 10) (tt := tYes) rfl sc_read_samples.nd (pi_range1 (by rfl) T.m_range (pa_cons (pv 5) pa_nil)) (blkOk_by (N := ["data", "start", "stop", "form", "rate", "count", "depth", "size", "samples", "place", "at"]) (sc := defScope s_read_samples) (by decide +kernel)) (fun _ _ _ _ _ => pg_name (i := 10) sc_read_samples.nd rfl (Or.inl rfl)) (fun _ _ _ _ _ => pts_nil) (fun _ _ _ _ _ => (SL.pe_stepL K rfl (pv 8) (pv 10) (pv 5)))) pa_nil)))))))))), ?_⟩
  obtain ⟨m, hm⟩ : ∃ m, (D + 7) / 8 = m := ⟨_, rfl⟩
  have hm4 : 1 ≤ m ∧ m ≤ 4 := by omega
  obtain ⟨cn, hcn⟩ : ∃ cn, rs.length = cn := ⟨_, rfl⟩
  have hdl : (datB D rs n).length = n * (cn * m) := by rw [datB_len, hcn, hm]
  rw [hdl]
  rw [hcn] at hT h1 h8
  have hncn : n * cn ≤ 64 := Nat.mul_le_mul hn8 h8
  refine q_unp3 (ev_var rfl) hT fun H1 e1 => ?_
  show tSeq _ _ _ [some (.ref p), some (.int (st : Int)), some (.int ((st + n * (cn * m) : Nat) : Int)), some (.ref T0), some (.int (rate : Int)), some (.int (cn : Int)), some (.int (D : Int)), none, none, none, none] _
  refine q_asg (v := .int (m : Int)) (Ev.is (ev_smb (ev_var rfl)) (by rw [hm])) fun H2 e2 => ?_
  have e12 := e1.trans e2
  have hpos : 0 < cn * m := Nat.mul_pos h1 hm4.1
  refine q_when (b := false) (et_is (et_test (ev_ne (x := .int 0) (y := .int 0) (Ev.is (ev_I (j := ((cn * m : Nat) : Int)) (ev_I0 (g := fun i j => .int (i - j)) (ev_var rfl) (ev_var rfl)) (Ev.is (ev_I (ev_var rfl) (ev_var rfl) (.inl (by omega))) (congrArg V.int (by rw [Int.natCast_mul]))) (by show (0 : Int) < _; omega)) (congrArg V.int (by
    rw [show ((st + n * (cn * m) : Nat) : Int) - (st : Int) = ((n * (cn * m) : Nat) : Int) by omega, ← Int.natCast_emod, Nat.mul_mod_left]
    rfl))) ev_c rfl)) rfl) (fun hb => by cases hb) fun _ H3 e3 => ?_
  have e13 := e12.trans e3
  have hSl : (smpL rs n).length = n * cn := by rw [smpL_len, hcn]
  have hcnm : n * (cn * m) = m * (n * cn) := by rw [← Nat.mul_assoc, Nat.mul_comm]
  have hdS : ds.drop st = (smpL rs n).flatMap (fun x => lowB (stv D x) ((D + 7) / 8)) ++ r := by rw [hd, ← outF_smp]; rfl
  refine q_asgL (xs := (smpL rs n).map V.int) (el_lcC (n := n * cn) (a := (st : Int)) (b := (st : Int) + ((m * (n * cn) : Nat) : Int)) (c := (m : Int)) _ (ea_cons (ev_var rfl) (ea_cons (Ev.is (ev_var rfl) (congrArg V.int (by omega))) (ea_cons (ev_var rfl) ea_nil))) (rg_c (by omega) (by omega) hm4) (by rw [List.length_map, hSl]) (by rw [List.length_map, hSl]; omega) (fun _ => rfl) fun q G eG hq => ?_) fun ps H4 hps e4 gs => ?_
  · have hx : (smpL rs n)[q]? = some ((smpL rs n)[q]'(by omega)) := List.getElem?_eq_getElem _
    generalize (smpL rs n)[q]'(by omega) = x at *
    obtain ⟨r0, hr0, hxr⟩ := smp_mem hn (List.mem_of_getElem? hx)
    obtain ⟨rst, hrst⟩ : ∃ rst, ds.drop (st + q * m) = lowB (stv D x) ((D + 7) / 8) ++ rst := ⟨_, by
      rw [← List.drop_drop, hdS, ← hm]
      exact flat_drop (f := fun x => lowB (stv D x) ((D + 7) / 8)) (fun x => lowB_len _ _) _ _ _ _ hx⟩
    exact ⟨_, at_int hx, ev_call (vs := [.ref p, .int ((st + q * m : Nat) : Int), .int (m : Int), .int (D : Int)]) (ea_cons (ev_var rfl) (ea_cons (Ev.is (ev_var rfl) (congrArg V.int (by rw [Int.natCast_add, Int.natCast_mul]))) (ea_cons (ev_var rfl) (ea_cons (ev_var rfl) ea_nil)))) fun G2 e Q2 q2 _ => ⟨p, ds, rst, st + q * m, D, x, by rw [hm]; rfl, ex_l (e13.trans (eG.trans e)) hS, h4, h32, hrst, (hb _ hr0 _ hxr).1, (hb _ hr0 _ hxr).2, q2⟩⟩
  have e14 := e13.trans e4
  show tRet _ _ [some (.ref p), some (.int (st : Int)), some (.int ((st + n * (cn * m) : Nat) : Int)), some (.ref T0), some (.int (rate : Int)), some (.int (cn : Int)), some (.int (D : Int)), some (.int (m : Int)), some (.ref ps), none, none] _
  refine s_retN (en_aud T (rs := rs) (ev_var rfl) (ev_var rfl) (fun G0 eG0 Q0 q0 => tlc_rngE (n := (cn : Int)) (ea_cons (ev_var rfl) ea_nil) (by omega) fun H6 e6 L hL => ⟨fun i H' => ∃ as : List Addr, Ex H6 H' ∧ H' L = some (.lst (as.map V.ref)) ∧ RwAt H' as (rs.take i) ∧ ∀ b ∈ as, b ≠ L, ⟨[], Ex.new hL, upd_same, ⟨rfl, (fun j b r h _ => by cases h)⟩, (fun b hb => by cases hb)⟩, fun i H' hi h => ⟨rfl, ?_⟩, fun H7 h => ?_⟩) (by omega)) fun a H5 _ e5 hA => k a H5 (e14.trans e5) hA
  · obtain ⟨as, ex, gL, hR, hne⟩ := h
    have hri : rs[i]? = some (rs[i]'(by omega)) := List.getElem?_eq_getElem _
    have hrn := hn _ (List.mem_of_getElem? hri)
    generalize rs[i]'(by omega) = rw_ at *
    have hst2 : SL.stp ((smpL rs n).map V.int) i cn = rw_.map V.int := by
      rw [SL.stp_eq _ (V.int 0) n i cn (by rw [List.length_map, hSl]) (by omega)]
      refine List.ext_getElem? fun j => ?_
      rw [List.getElem?_map, List.getElem?_map]
      by_cases hj : j < n
      · rw [List.getElem?_range hj, List.getElem?_eq_getElem (show j < rw_.length by omega)]
        show some (((smpL rs n).map V.int).getD (i + cn * j) (V.int 0)) = some (V.int _)
        have h1 := smp_at hj hri
        rw [hcn, Nat.mul_comm j cn, Nat.add_comm] at h1
        rw [List.getD_eq_getElem?_getD, List.getElem?_map, h1]
        show some (V.int (gx0 rw_ j)) = _
        unfold gx0
        rw [List.getD_eq_getElem?_getD, List.getElem?_eq_getElem (show j < rw_.length by omega)]
        rfl
      · rw [List.getElem?_eq_none (by rw [List.length_range]; omega), List.getElem?_eq_none (by omega)]
        rfl
    refine el_go (EvL.is (el_stp (i := i) (c := cn) (Ev.s (ev_var rfl) (sq_of ((eG0.trans (e6.trans ex)) _ _ gs))) (ev_var rfl) (ev_var rfl) (by omega)) hst2) fun p2 H9 hp2 e9 gp2 => ?_
    have hpL : p2 ≠ L := by rintro rfl; rw [gL] at hp2; cases hp2
    have hl2 : as.length ≤ 8 := by have := hR.1; rw [List.length_take] at this; omega
    refine ⟨_, e9 _ _ gL, sz_lt (by rw [List.length_map]; omega), as ++ [p2], Ex.mut (ex.trans e9) hL, by rw [upd_same, List.map_append]; rfl, ?_, fun q hq => ?_⟩
    · rw [List.take_add_one, hri]
      exact (hR.mut e9 hne).snoc (by rw [upd_ne hpL]; exact gp2)
    · rcases List.mem_append.mp hq with hq | hq
      · exact hne q hq
      · rw [List.mem_singleton.mp hq]; exact hpL
  · obtain ⟨as, ex, gL, hR, _⟩ := h
    rw [Int.toNat_natCast, ← hcn, List.take_length] at hR
    exact q0 _ _ (e6.trans ex) ⟨L, as, rfl, gL, hR⟩

-- K14G
/-! ### a file read -/
theorem ex_tupAP {t : TA} {σ : L2.St} {H : Hp} {R : List V → Hp → Prop} (h : EvAP t σ H R) (hl : ∀ vs G, R vs G → vs.length ≤ 100000) : EvX (tTup t) σ H (fun v G => ∃ p vs G0, v = .ref p ∧ G p = some (.tup vs) ∧ Ex G0 G ∧ R vs G0) := fun H1 e Q q => h H1 e _ fun vs H2 e2 hR => ⟨sz_of (hl vs H2 hR), fun p hp => q (.ref p) _ (e2.trans (Ex.new hp)) ⟨p, vs, H2, rfl, upd_same, Ex.new hp, hR⟩⟩
theorem q_asgCT {ta : TA} {vs dvs : List V} {sp : Sp} {E : XK} {g : TG} {D : Ends} {tz : TS} {σ : L2.St} {H : Hp} (h : EvA ta σ H vs) (k : ∀ H1, Ex H H1 → sp (vs ++ dvs) H1 (fun x H2 => g x σ H2 (tz D)) E) : tSeq (tAsg (tCall sp dvs E ta) g) tz D σ H := h H (Ex.refl H) _ fun H1 e => k H1 e
theorem q_forX2 {te : TE} {g : TG} {tu tz : TS} {D : Ends} {σ : L2.St} {H : Hp} (Pv : Hp → Nat → L2.St → Hp → Prop) (S : V → V → Hp → Prop) (h : EvX te σ H (fun v G => ∃ t a b, v = .ref t ∧ G t = some (.tup [a, b]) ∧ S a b G)) (h0 : ∀ H1, Ex H H1 → Pv H1 0 σ H1) (hx : ∀ H1 i σ' H', Pv H1 i σ' H' → Ex H1 H')
    (ha : ∀ H1 a b σ' H', Ex H H1 → S a b H1 → Pv H1 0 σ' H' → g a σ' H' fun σ2 H2 => tu { D with nx := Pv H1 1, ct := Pv H1 1, bk := tz D } σ2 H2)
    (hb : ∀ H1 a b σ' H', Ex H H1 → S a b H1 → Pv H1 1 σ' H' → g b σ' H' fun σ2 H2 => tu { D with nx := Pv H1 2, ct := Pv H1 2, bk := tz D } σ2 H2)
    (hd : ∀ H1 σ' H', Ex H H1 → Pv H1 2 σ' H' → tz D σ' H') : tSeq (tFor (iTup K te) g tu) tz D σ H :=
  h H (Ex.refl H) _ fun v G eG ⟨t, a, b, hv, gt, hS⟩ => ⟨t, hv, ⟨_, st_of gt⟩, for_tup (xs := [a, b]) (D := { D with nx := tz D }) (fun i σ' H' => Pv G i σ' H') (h0 G eG) (fun i σ' H' _ h => st_of (hx _ _ _ _ h _ _ gt)) (fun i x σ' H' hi h => by
    match i, hi with
    | 0, hi =>
      cases hi
      exact ha G _ b σ' H' eG hS h
    | 1, hi =>
      cases hi
      exact hb G a _ σ' H' eG hS h) (fun σ' H' h => hd G σ' H' eG h)⟩
def PrT (x y z u : V) (a b : V) (G : Hp) : Prop := ∃ p1 p2, a = .ref p1 ∧ b = .ref p2 ∧ G p1 = some (.tup [x, y]) ∧ G p2 = some (.tup [z, u])
theorem ex_tt {t1 t2 t3 t4 : TE} {v1 v2 v3 v4 : V} {σ : L2.St} {H : Hp} (h1 : Ev t1 σ H v1) (h2 : Ev t2 σ H v2) (h3 : Ev t3 σ H v3) (h4 : Ev t4 σ H v4) : EvX (tTup (tCons (tTup (tCons t1 (tCons t2 tNil))) (tCons (tTup (tCons t3 (tCons t4 tNil))) tNil))) σ H (fun v G => ∃ t a b, v = .ref t ∧ G t = some (.tup [a, b]) ∧ PrT v1 v2 v3 v4 a b G) := fun H1 e Q q =>
  ex_tupAP (ap_u (eu_tup (ea_cons h1 (ea_cons h2 ea_nil)) (Nat.le_of_ble_eq_true rfl)) (ap_u (eu_tup (ea_cons h3 (ea_cons h4 ea_nil)) (Nat.le_of_ble_eq_true rfl)) ap_nil)) (fun vs G hR => by obtain ⟨_, _, rfl, _, _, _, _, rfl, _, _, rfl⟩ := hR; exact Nat.le_of_ble_eq_true rfl) H1 e Q fun v H2 e2 ⟨p, vs, G0, hv, gp, eG, hR⟩ => by
    obtain ⟨p1, r1, rfl, _, g1, p2, r2, rfl, _, g2, rfl⟩ := hR
    exact q v H2 e2 ⟨p, _, _, hv, gp, p1, p2, rfl, rfl, eG _ _ g1, eG _ _ g2⟩
def Xt (c : List Int × List Int) : Prop := c.1.length = 4 ∧ c.1 ≠ frmN ∧ c.1 ≠ datN ∧ c.2.length ≤ 10000
def cks (l : List (List Int × List Int)) : List Int := l.flatMap fun c => chB c.1 c.2
def sp_rw (K : PySem.W.Frag) (C : Addr) : Sp := fun vs H Q _ => ∃ (p : Addr) (ds r : List Int) (A B : List (List Int × List Int)) (rate D n : Nat) (rs : List (List Int)), vs = [.ref p] ∧ SqL K H p (ds.map V.int) ∧ ds = filB (cks A ++ (chB frmN (frmB rate D rs.length) ++ (cks B ++ (chB datN (datB D rs n) ++ r)))) ∧ (∀ c ∈ A, Xt c) ∧ (∀ c ∈ B, Xt c) ∧ 1 ≤ rs.length ∧ rs.length ≤ 8 ∧ n ≤ 8 ∧ 4 ≤ D ∧ D ≤ 32 ∧ rate ≤ 1048575 ∧ ds.length ≤ 100000 ∧ Rws D n rs ∧ ∀ a H', Ex H H' → AudAt C H' a rate D rs → Q (.ref a) H'
theorem fil_drop12 (x : List Int) : (filB x).drop 12 = x := by
  unfold filB
  rw [show (12 : Nat) = rifB.length + (4 + wavB.length) from rfl, ← List.drop_drop, List.drop_left, ← List.drop_drop, List.drop_left' (lowB_len _ _), List.drop_left]
theorem fil_8 (x : List Int) : ((filB x).drop 8).take 4 = wavB := by
  unfold filB
  rw [show (8 : Nat) = rifB.length + 4 from rfl, ← List.drop_drop, List.drop_left, List.drop_left' (lowB_len _ _)]
  rfl
theorem fil_len (x : List Int) : (filB x).length = 12 + x.length := by
  unfold filB
  rw [List.length_append, List.length_append, List.length_append, lowB_len]
  show 4 + (4 + (4 + _)) = _
  omega
theorem ok_read_wave (T : TX K mg) : FnOk P w K mg base CX0 4 T.a_read_wave T.d_read_wave ["data"] (sp_rw K T.C_Audio) := by
  refine T.F_read_wave.ok sc_read_wave (fun vs H Q E h => by obtain ⟨p, ds, r, A, B, rate, D, n, rs, rfl, _⟩ := h; rfl) (fun cdv A0 outer s0 H vs Q E hr h => ?_)
  obtain ⟨p, ds, r, A, B, rate, D, n, rs, rfl, hS, hds, hA, hB, h1, h8, hn8, h4, h32, hrt, hdl, hW, k⟩ := h
  refine ⟨_, (pss_cons (ps_if (pt_cmpR op_lt (pe_callB (r := rLenS K) call_len_seq (by rfl) T.m_len PySem.boot_len (pa_cons (pv 0) pa_nil)) (pe_glob (by rfl) T.c_FILE_HEAD T.r_FILE_HEAD) (nomark _)) (pss_one ps_never) pss_nil)
      (pss_cons (ps_for PassesOwn.never rfl (pi_tup (pe_tup (pa_cons (pe_tup (pa_cons pe_int (pa_cons (pe_glob (v := V.ref T.A_RIFF) (by rfl) T.c_RIFF rfl) pa_nil))) (pa_cons (pe_tup (pa_cons pe_int (pa_cons (pe_glob (v := V.ref T.A_WAVE) (by rfl) T.c_WAVE rfl) pa_nil))) pa_nil)))) (pg_tup rfl (pgs_cons (pg_name (i := 1) sc_read_wave.nd rfl (Or.inl rfl)) (pgs_cons (pg_name (i := 2) sc_read_wave.nd rfl (Or.inl rfl)) pgs_nil))) (pss_one (ps_if (pt_cmpR (op_neD (hu64 hr)) (pe_slice (r := rSlL K) sl_list (pv 0) (po_some (pv 1)) (po_some (pe_op op_add (pv 1) pe_int))) (pe_callTy (r := rListS K) call_list_of (by rfl) T.m_list PyProof.Rows.boot_list (pa_cons (pv 2) pa_nil)) (nomark _)) (pss_one ps_never) pss_nil)))
      (pss_cons (ps_set (i := 3) sc_read_wave.nd rfl (Or.inl rfl) pe_non)
      (pss_cons (ps_set (i := 1) sc_read_wave.nd rfl (Or.inl rfl) (pe_glob (by rfl) T.c_FILE_HEAD T.r_FILE_HEAD))
      (pss_one (ps_while PassesOwn.never (pt_val pe_bl) (pss_cons (ps_asg (pe_call (ok_read_chunk T) (hr.mono (by decide)) (by rfl) T.g_read_chunk T.F_read_chunk.kp T.b_read_chunk .nil pass0 (pa_cons (pv 0) (pa_cons (pv 1) pa_nil))) (pg_tup rfl (pgs_cons (pg_name (i := 4) sc_read_wave.nd rfl (Or.inl rfl)) (pgs_cons (pg_name (i := 5) sc_read_wave.nd rfl (Or.inl rfl)) (pgs_cons (pg_name (i := 6) sc_read_wave.nd rfl (Or.inl rfl)) pgs_nil)))))
        (pss_cons (ps_if (pt_cmpR (op_eqD (hu64 hr)) (pv 4) (pe_callTy (r := rListS K) call_list_of (by rfl) T.m_list PyProof.Rows.boot_list (pa_cons (pe_glob (v := V.ref T.A_DATA) (by rfl) T.c_DATA rfl) pa_nil)) (nomark _)) (pss_cons (ps_if (pt_cmpR op_isN1 (pv 3) pe_non (nomark _)) (pss_one ps_never) pss_nil)
          (pss_one (ps_ret (pe_call (ok_read_samples T) (hr.mono (by decide)) (by rfl) T.g_read_samples T.F_read_samples.kp T.b_read_samples .nil pass0 (pa_cons (pv 0) (pa_cons (pv 5) (pa_cons (pv 6) (pa_cons (pv 3) pa_nil)))))))) pss_nil)
        (pss_cons (ps_if (pt_cmpR (op_eqD (hu64 hr)) (pv 4) (pe_callTy (r := rListS K) call_list_of (by rfl) T.m_list PyProof.Rows.boot_list (pa_cons (pe_glob (v := V.ref T.A_FORM) (by rfl) T.c_FORM rfl) pa_nil)) (nomark _)) (pss_cons (ps_if (pt_cmpR op_notN1 (pv 3) pe_non (nomark _)) (pss_one ps_never) pss_nil)
          (pss_one (ps_set (i := 3) sc_read_wave.nd rfl (Or.inl rfl) (pe_call (ok_read_form T) (hr.mono (by decide)) (by rfl) T.g_read_form T.F_read_form.kp T.b_read_form .nil pass0 (pa_cons (pv 0) (pa_cons (pv 5) (pa_cons (pv 6) pa_nil))))))) pss_nil)
        (pss_one (ps_set (i := 1) sc_read_wave.nd rfl (Or.inl rfl) (pe_op op_add (pv 6) (pe_op op_mod (pe_op op_sub (pv 6) (pv 5)) pe_int))))))))))))), ?_⟩
  have hl12 : 12 ≤ ds.length := by rw [hds, fil_len]; omega
  have hd12 : ds.drop 12 = cks A ++ (chB frmN (frmB rate D rs.length) ++ (cks B ++ (chB datN (datB D rs n) ++ r))) := by rw [hds, fil_drop12]
  have hd0 : (ds.drop 0).take (0 + 4 - 0) = rifB := by rw [hds]; rfl
  have hd8 : (ds.drop 8).take (8 + 4 - 8) = wavB := by rw [hds]; exact fil_8 _
  clear hds
  refine q_when (b := false) (et_is (et_test (ev_I0 (g := fun i j => .bl (decide (i < j))) (Ev.is (ev_lenS (K := K) (Ev.s (ev_var rfl) hS)) (by rw [List.length_map])) ev_c)) (decide_eq_false (by omega))) (fun hb => by cases hb) fun _ H1 e1 => ?_
  refine q_forX2 (fun G i σ' H' => ∃ z1 z2 : Option V, σ' = [some (.ref p), z1, z2, none, none, none, none] ∧ Ex H1 H' ∧ Ex G H') _ (ex_tt (v1 := .int 0) (v2 := .ref T.A_RIFF) (v3 := .int 8) (v4 := .ref T.A_WAVE) ev_c ev_c ev_c ev_c) (fun G eG => ⟨none, none, rfl, eG, Ex.refl _⟩) (fun G i σ' H' h => by obtain ⟨_, _, _, _, h⟩ := h; exact h) ?_ ?_ ?_
  · rintro G _ _ σ' H2 eG ⟨T0, _, rfl, _, g1, _⟩ ⟨z1, z2, rfl, ex, ex2⟩
    have gT := ex2 _ _ g1
    refine ⟨T0, [.int 0, .ref T.A_RIFF], rfl, st_of gT, rfl, _, _, rfl, _, _, rfl, rfl, ?_⟩
    refine s_when (b := false) (et_is (et_test (ev_neI (K := K) (ns := rifB) (ms := rifB) (EvR.s (EvL.r (EvL.is (el_mid (i := 0) (j := 0 + 4) (Ev.s (ev_var rfl) (ex_l (e1.trans ex) hS)) (ev_var rfl) (Ev.is (ev_I0 (g := fun i j => .int (i + j)) (ev_var rfl) ev_c) rfl)) (by rw [hd0])))) (EvR.s (EvL.r (el_ofP (xs := rifB.map V.int) (ev_var rfl) (T.s_RIFF _)))))) (by rw [decide_eq_true rfl]; rfl)) (fun hb => by cases hb) fun _ H3 e3 => ⟨_, _, rfl, ex.trans e3, ex2.trans e3⟩
  · rintro G _ _ σ' H2 eG ⟨_, T0, _, rfl, _, g1⟩ ⟨z1, z2, rfl, ex, ex2⟩
    have gT := ex2 _ _ g1
    refine ⟨T0, [.int 8, .ref T.A_WAVE], rfl, st_of gT, rfl, _, _, rfl, _, _, rfl, rfl, ?_⟩
    refine s_when (b := false) (et_is (et_test (ev_neI (K := K) (ns := wavB) (ms := wavB) (EvR.s (EvL.r (EvL.is (el_mid (i := 8) (j := 8 + 4) (Ev.s (ev_var rfl) (ex_l (e1.trans ex) hS)) (ev_var rfl) (Ev.is (ev_I0 (g := fun i j => .int (i + j)) (ev_var rfl) ev_c) rfl)) (by rw [hd8])))) (EvR.s (EvL.r (el_ofP (xs := wavB.map V.int) (ev_var rfl) (T.s_WAVE _)))))) (by rw [decide_eq_true rfl]; rfl)) (fun hb => by cases hb) fun _ H3 e3 => ⟨_, _, rfl, ex.trans e3, ex2.trans e3⟩
  rintro G σ' H2 eG ⟨z1, z2, rfl, ex, _⟩
  have e2 := e1.trans ex
  refine q_asg (v := .non) ev_c fun H3 e3 => ?_
  refine q_asg (v := .int ((12 : Nat) : Int)) ev_c fun H4 e4 => ?_
  have e04 := e2.trans (e3.trans e4)
  clear e1 ex e2 e3 e4 eG hd0 hd8
  show tWhile _ _ _ [some (.ref p), some (.int ((12 : Nat) : Int)), z2, some .non, none, none, none] _
  refine s_while (fun m σ' H' => ∃ (pl : Nat) (fm : V) (L : List (List Int × List Int)) (z2 z4 z5 z6 : Option V), σ' = [some (.ref p), some (.int (pl : Int)), z2, some fm, z4, z5, z6] ∧ Ex H H' ∧ pl ≤ ds.length ∧ (∀ c ∈ L, Xt c) ∧
    ((fm = .non ∧ ds.drop pl = cks L ++ (chB frmN (frmB rate D rs.length) ++ (cks B ++ (chB datN (datB D rs n) ++ r))) ∧ m = L.length + B.length + 3) ∨
     (∃ T0, fm = .ref T0 ∧ SqT K H' T0 [.int (rate : Int), .int (rs.length : Int), .int (D : Int)] ∧ ds.drop pl = cks L ++ (chB datN (datB D rs n) ++ r) ∧ m = L.length + 1))) (A.length + B.length + 3) ⟨12, .non, A, z2, none, none, none, rfl, e04, hl12, hA, .inl ⟨rfl, hd12, rfl⟩⟩ ?_
  rintro m σ' H5 ⟨pl, fm, L, z2, z4, z5, z6, rfl, ex, hpl, hL, hph⟩
  refine ⟨true, et_B ev_c, fun _ H6 e6 => ?_, fun hb => by cases hb⟩
  have ex6 := ex.trans e6
  refine ⟨fun σ2 H2 => ∃ m', m' < m ∧ ∃ (pl : Nat) (fm : V) (L : List (List Int × List Int)) (z2 z4 z5 z6 : Option V), σ2 = [some (.ref p), some (.int (pl : Int)), z2, some fm, z4, z5, z6] ∧ Ex H H2 ∧ pl ≤ ds.length ∧ (∀ c ∈ L, Xt c) ∧
    ((fm = .non ∧ ds.drop pl = cks L ++ (chB frmN (frmB rate D rs.length) ++ (cks B ++ (chB datN (datB D rs n) ++ r))) ∧ m' = L.length + B.length + 3) ∨
     (∃ T0, fm = .ref T0 ∧ SqT K H2 T0 [.int (rate : Int), .int (rs.length : Int), .int (D : Int)] ∧ ds.drop pl = cks L ++ (chB datN (datB D rs n) ++ r) ∧ m' = L.length + 1)), fun σ2 H2 h => h, ?_⟩
  have rd : ∀ {E : XK} {tz : TS} {D' : Ends} {nm cs r0 : List Int}, nm.length = 4 → cs.length ≤ 10000 → ds.drop pl = chB nm cs ++ r0 → (∀ q G2, Ex H6 G2 → G2 q = some (.lst (nm.map V.int)) → tz D' [some (.ref p), some (.int (pl : Int)), z2, some fm, some (.ref q), some (.int ((pl + 8 : Nat) : Int)), some (.int ((pl + 8 + cs.length : Nat) : Int))] G2) → tSeq (tAsg (tCall (sp_rch K) [] E (tCons (tVar 0) (tCons (tVar 1) tNil))) (gTup K 3 (gCons (gName 4) (gCons (gName 5) (gCons (gName 6) gNil))))) tz D' [some (.ref p), some (.int (pl : Int)), z2, some fm, z4, z5, z6] H6 := fun {E tz D' nm cs r0} hn hc hd kk =>
    q_asgCT (ea_cons (ev_var (v := .ref p) rfl) (ea_cons (ev_var (v := .int (pl : Int)) rfl) ea_nil)) fun G1 g1 => ⟨p, ds, nm, cs, r0, pl, rfl, ex_l (ex6.trans g1) hS, hd, hn, hc, fun T0 q G2 eG2 gT gq => ⟨T0, [.ref q, .int ((pl + 8 : Nat) : Int), .int ((pl + 8 + cs.length : Nat) : Int)], rfl, st_of gT, rfl, _, _, rfl, _, _, rfl, _, _, rfl, rfl, kk q G2 (g1.trans eG2) gq⟩⟩
  have eqN : ∀ {σ : L2.St} {G : Hp} {q t : Addr} {nm xs : List Int} {b : Bool}, σ[4]? = some (some (.ref q)) → G q = some (.lst (nm.map V.int)) → SqT K G t (xs.map V.int) → decide (nm = xs) = b → EvT (tTest (tOp (rEqD K) (tVar 4) (tCB (rListS K) (tCons (tC (.ref t)) tNil)))) σ G b := fun h g hT hb => et_is (et_test (ev_eqI (K := K) (Ev.s (ev_var h) (sq_of g)) (EvR.s (EvL.r (el_ofP ev_c hT))))) hb
  have nxt : ∀ {nm cs r0 : List Int}, nm.length = 4 → ds.drop pl = chB nm cs ++ r0 → ds.drop (pl + 8 + cs.length + cs.length % 2) = r0 ∧ pl + 8 + cs.length + cs.length % 2 ≤ ds.length := fun {nm cs r0} hn hd => by
    have h1 := drop_step hd
    have h2 := congrArg List.length hd
    rw [List.length_drop, List.length_append] at h2
    rw [chB_len, hn] at h1 h2
    rw [show pl + (4 + 4 + cs.length + cs.length % 2) = pl + 8 + cs.length + cs.length % 2 by omega] at h1
    exact ⟨h1, by omega⟩
  have stp : ∀ {cl : Nat} {σ : L2.St} {G : Hp}, σ[5]? = some (some (.int ((pl + 8 : Nat) : Int))) → σ[6]? = some (some (.int ((pl + 8 + cl : Nat) : Int))) → Ev (tOp (rI0 fun i j => .int (i + j)) (tVar 6) (tOp (rI (fun _ j => 0 < j) fun i j => .int (i % j)) (tOp (rI0 fun i j => .int (i - j)) (tVar 6) (tVar 5)) (tC (.int 2)))) σ G (.int ((pl + 8 + cl + cl % 2 : Nat) : Int)) := fun h5 h6 => Ev.is (ev_I0 (g := fun i j => .int (i + j)) (ev_var h6) (ev_I (ev_I0 (g := fun i j => .int (i - j)) (ev_var h6) (ev_var h5)) ev_c (by decide))) (congrArg V.int (by omega))
  -- a chunk without a meaning
  have skip : ∀ {c : List Int × List Int} {L' : List (List Int × List Int)} {r0 : List Int}, L = c :: L' → ds.drop pl = cks L ++ r0 → Xt c ∧ ds.drop pl = chB c.1 c.2 ++ (cks L' ++ r0) ∧ ∀ x ∈ L', Xt x := fun {c L' r0} hcl hd => by
    subst hcl
    refine ⟨hL c (List.mem_cons_self ..), ?_, fun x hx => hL x (List.mem_cons_of_mem _ hx)⟩
    rw [hd]
    unfold cks
    rw [List.flatMap_cons, List.append_assoc]
  rcases hph with ⟨rfl, hd, hm⟩ | ⟨T0, rfl, hT, hd, hm⟩
  · cases L with
    | cons c L' =>
      obtain ⟨⟨hc1, hc2, hc3, hc4⟩, hdc, hL'⟩ := skip rfl hd
      obtain ⟨hn1, hn2⟩ := nxt hc1 hdc
      refine rd hc1 hc4 hdc fun q G2 g2 gq => ?_
      refine q_when (b := false) (eqN (xs := datN) rfl gq (T.s_DATA _) (decide_eq_false hc3)) (fun hb => by cases hb) fun _ G3 g3 => ?_
      refine q_when (b := false) (eqN (xs := frmN) rfl (g3 _ _ gq) (T.s_FORM _) (decide_eq_false hc2)) (fun hb => by cases hb) fun _ G4 g4 => ?_
      refine s_asg (stp rfl rfl) fun G5 g5 => ⟨_, ?_, _, .non, L', _, _, _, _, rfl, ex6.trans (g2.trans (g3.trans (g4.trans g5))), hn2, hL', .inl ⟨rfl, hn1, rfl⟩⟩
      rw [hm, List.length_cons]
      omega
    | nil =>
      have hd : ds.drop pl = chB frmN (frmB rate D rs.length) ++ (cks B ++ (chB datN (datB D rs n) ++ r)) := hd
      obtain ⟨hn1, hn2⟩ := nxt rfl hd
      have hfl : (frmB rate D rs.length).length ≤ 40 := by rw [frmB_len]; split <;> omega
      have hdf : ds.drop (pl + 8) = frmB rate D rs.length ++ (List.replicate ((frmB rate D rs.length).length % 2) 0 ++ (cks B ++ (chB datN (datB D rs n) ++ r))) := by
        have h0 := hd
        unfold chB at h0
        rw [List.append_assoc, List.append_assoc, List.append_assoc] at h0
        have h1 := drop_step (drop_step h0)
        rw [lowB_len] at h1
        exact h1
      refine rd rfl (by omega) hd fun q G2 g2 gq => ?_
      refine q_when (b := false) (eqN (xs := datN) rfl gq (T.s_DATA _) (by decide)) (fun hb => by cases hb) fun _ G3 g3 => ?_
      have e63 := ex6.trans (g2.trans g3)
      refine q_when (b := true) (eqN (xs := frmN) rfl (g3 _ _ gq) (T.s_FORM _) (by decide)) (fun _ G4 g4 => ?_) (fun hb => by cases hb)
      refine q_when (b := false) (et_is (et_test (ev_notN (ev_var rfl))) rfl) (fun hb => by cases hb) fun _ G5 g5 => ?_
      have e65 := e63.trans (g4.trans g5)
      refine s_asgC (ea_cons (ev_var rfl) (ea_cons (ev_var rfl) (ea_cons (ev_var rfl) ea_nil))) fun G6 g6 => ⟨p, ds, _, pl + 8, rate, D, rs.length, rfl, ex_l (e65.trans g6) hS, hdf, h1, h8, h4, h32, hrt, fun T0 G7 g7 gT => ?_⟩
      refine s_asg (stp rfl rfl) fun G8 g8 => ⟨_, ?_, _, .ref T0, B, _, _, _, _, rfl, e65.trans (g6.trans (g7.trans g8)), hn2, hB, .inr ⟨T0, rfl, st_of (g8 _ _ gT), hn1, rfl⟩⟩
      rw [hm]
      show B.length + 1 < 0 + B.length + 3
      omega
  · cases L with
    | cons c L' =>
      obtain ⟨⟨hc1, hc2, hc3, hc4⟩, hdc, hL'⟩ := skip rfl hd
      obtain ⟨hn1, hn2⟩ := nxt hc1 hdc
      refine rd hc1 hc4 hdc fun q G2 g2 gq => ?_
      refine q_when (b := false) (eqN (xs := datN) rfl gq (T.s_DATA _) (decide_eq_false hc3)) (fun hb => by cases hb) fun _ G3 g3 => ?_
      refine q_when (b := false) (eqN (xs := frmN) rfl (g3 _ _ gq) (T.s_FORM _) (decide_eq_false hc2)) (fun hb => by cases hb) fun _ G4 g4 => ?_
      refine s_asg (stp rfl rfl) fun G5 g5 => ⟨_, ?_, _, .ref T0, L', _, _, _, _, rfl, ex6.trans (g2.trans (g3.trans (g4.trans g5))), hn2, hL', .inr ⟨T0, rfl, ex_t (e6.trans (g2.trans (g3.trans (g4.trans g5)))) hT, hn1, rfl⟩⟩
      rw [hm, List.length_cons]
      omega
    | nil =>
      have hd : ds.drop pl = chB datN (datB D rs n) ++ r := hd
      have hdl2 := datB_le h8 hn8 h32
      have hdf : ds.drop (pl + 8) = datB D rs n ++ (List.replicate ((datB D rs n).length % 2) 0 ++ r) := by
        have h0 := hd
        unfold chB at h0
        rw [List.append_assoc, List.append_assoc, List.append_assoc] at h0
        have h1 := drop_step (drop_step h0)
        rw [lowB_len] at h1
        exact h1
      refine rd rfl (by omega) hd fun q G2 g2 gq => ?_
      refine q_when (b := true) (eqN (xs := datN) rfl gq (T.s_DATA _) (by decide)) (fun _ G3 g3 => ?_) (fun hb => by cases hb)
      refine q_when (b := false) (et_is (et_test (ev_isN (ev_var rfl))) rfl) (fun hb => by cases hb) fun _ G4 g4 => ?_
      have e64 := g2.trans (g3.trans g4)
      refine s_retC (ea_cons (ev_var rfl) (ea_cons (ev_var rfl) (ea_cons (ev_var rfl) (ea_cons (ev_var rfl) ea_nil)))) fun G6 g6 => ⟨p, T0, ds, _, pl + 8, rate, D, n, rs, rfl, ex_l (ex6.trans (e64.trans g6)) hS, ex_t (e6.trans (e64.trans g6)) hT, hdf, h1, h8, hn8, h4, h32, by omega, hW, fun a G7 g7 hAu => k a G7 (ex6.trans (e64.trans (g6.trans g7))) hAu⟩

-- K14H
/-! ### the law -/
theorem ev_callAP {t : TA} {R : List V → Hp → Prop} {sp : Sp} {dvs : List V} {E : XK} {σ : L2.St} {H : Hp} {z : V} (h : EvAP t σ H R) (k : ∀ vs H1, Ex H H1 → R vs H1 → SpV sp (vs ++ dvs) H1 z) : Ev (tCall sp dvs E t) σ H z := fun H1 e Q q =>
  h H1 e _ fun vs H2 e2 hR => k vs H2 (e.trans e2) hR H2 (Ex.refl _) Q (fun H3 e3 => q H3 (e2.trans e3)) E
theorem el_callAP {t : TA} {R : List V → Hp → Prop} {sp : Sp} {dvs : List V} {E : XK} {σ : L2.St} {H : Hp} {xs : List V} (h : EvAP t σ H R) (k : ∀ vs H1, Ex H H1 → R vs H1 → SpL sp (vs ++ dvs) H1 xs) : EvL (tCall sp dvs E t) σ H xs := fun H1 e Q q =>
  h H1 e _ fun vs H2 e2 hR => k vs H2 (e.trans e2) hR H2 (Ex.refl _) Q (fun p H3 hp e3 g => q p H3 (fresh_back e2 hp) (e2.trans e3) g) E
theorem ex_ixAP {t : TA} {ti : TE} {R : List V → Hp → Prop} {σ : L2.St} {H : Hp} {i : Int} {S : V → Hp → Prop} (h : EvAP t σ H R) (hl : ∀ vs G, R vs G → vs.length ≤ 100000) (hi : Ev ti σ H (.int i)) (hu : Up S) (k : ∀ vs G, Ex H G → R vs G → ∃ v, atI vs i = some v ∧ S v G) : EvX (tOp (rIxL K) (tLst t) ti) σ H S := fun H1 e Q q =>
  h H1 e _ fun vs H2 e2 hR => ⟨sz_of (hl vs H2 hR), fun p hp => hi _ ((e.trans e2).trans (Ex.new hp)) _ fun H4 e4 => by
    obtain ⟨v, ha, hS⟩ := k vs H2 (e.trans e2) hR
    exact ⟨p, vs, i, v, rfl, rfl, sq_of (e4 _ _ upd_same), ha, q v H4 ((e2.trans (Ex.new hp)).trans e4) (hu _ _ _ ((Ex.new hp).trans e4) hS)⟩⟩
def LsAt (css : List (List Int)) : V → Hp → Prop := fun v G => ∃ (l : Addr) (as : List Addr), v = .ref l ∧ G l = some (.lst (as.map V.ref)) ∧ RwAt G as css
theorem rw_nil {G : Hp} : RwAt G [] [] := ⟨rfl, fun j a r h _ => by cases h⟩
theorem rw_cons {G : Hp} {a : Addr} {r : List Int} {as : List Addr} {rs : List (List Int)} (ha : G a = some (.lst (r.map V.int))) (h : RwAt G as rs) : RwAt G (a :: as) (r :: rs) := ⟨congrArg Nat.succ h.1, fun j b q h1 h2 => by
  cases j with
  | zero => cases h1; cases h2; exact ha
  | succ j => exact h.2 j b q h1 h2⟩
theorem el_lfl {te : TE} {σ : L2.St} {H : Hp} {E : XK} {css : List (List Int)} (h : EvX te σ H (LsAt css)) (h1 : ∀ c ∈ css, c.length ≤ 1000) (h2 : css.length ≤ 10) : EvL (tCall sp_lfl [] E (tCons te tNil)) σ H ((filB css.flatten).map V.int) := fun H1 e Q q =>
  h H1 e _ fun v H2 e2 ⟨l, as, hv, gl, hR⟩ => ⟨l, as, css, by rw [hv]; rfl, gl, hR, h1, h2, fun p H3 hp e3 g => q p H3 (fresh_back e2 hp) (e2.trans e3) g⟩
theorem ex_rw (T : TX K mg) {te : TE} {σ : L2.St} {H : Hp} {E : XK} {ds r : List Int} {A B : List (List Int × List Int)} {rate D n : Nat} {rs : List (List Int)} (h : EvS K te σ H (ds.map V.int)) (hds : ds = filB (cks A ++ (chB frmN (frmB rate D rs.length) ++ (cks B ++ (chB datN (datB D rs n) ++ r))))) (hA : ∀ c ∈ A, Xt c) (hB : ∀ c ∈ B, Xt c) (h1 : 1 ≤ rs.length) (h8 : rs.length ≤ 8) (hn8 : n ≤ 8) (h4 : 4 ≤ D) (h32 : D ≤ 32) (hrt : rate ≤ 1048575) (hl : ds.length ≤ 100000) (hW : Rws D n rs) : EvX (tCall (sp_rw K T.C_Audio) [] E (tCons te tNil)) σ H (fun v G => ∃ a, v = .ref a ∧ AudAt T.C_Audio G a rate D rs) := fun H1 e Q q =>
  h H1 e _ fun p H2 e2 hp => ⟨p, ds, r, A, B, rate, D, n, rs, rfl, hp, hds, hA, hB, h1, h8, hn8, h4, h32, hrt, hl, hW, fun a H3 e3 hAu => q (.ref a) H3 (e2.trans e3) ⟨a, rfl, hAu⟩⟩
theorem aud_up (C : Addr) (rate D : Nat) (rs : List (List Int)) : Up (fun v G => ∃ a, v = .ref a ∧ AudAt C G a rate D rs) := fun v G G' e ⟨a, h1, h2⟩ => ⟨a, h1, h2.ex e⟩
theorem ev_leq (T : TX K mg) {te t2 t3 t4 : TE} {σ : L2.St} {H : Hp} {E : XK} {rate D : Nat} {rs : List (List Int)} {c : Addr} {qs : List Addr} (h : EvX te σ H (fun v G => ∃ a, v = .ref a ∧ AudAt T.C_Audio G a rate D rs)) (h2 : Ev t2 σ H (.int (rate : Int))) (h3 : Ev t3 σ H (.int (D : Int))) (h4 : Ev t4 σ H (.ref c)) (gc : H c = some (.lst (qs.map V.ref))) (hR : RwAt H qs rs) (hl : rs.length ≤ 1000) (hlr : ∀ r ∈ rs, r.length ≤ 1000) : Ev (tCall (sp_leq T.C_Audio) [] E (tCons te (tCons t2 (tCons t3 (tCons t4 tNil))))) σ H (.bl true) :=
  ev_callAP (ap_x h (aud_up _ _ _ _) (ap_ev h2 (ap_ev h3 (ap_ev h4 ap_nil)))) fun vs H1 e hR1 => by
    obtain ⟨v, r1, rfl, ⟨a, rfl, hA⟩, r2, rfl, r3, rfl, r4, rfl, rfl⟩ := hR1
    exact fun H2 e2 Q q E => ⟨a, c, qs, rate, D, rs, rfl, hA.ex e2, (e.trans e2) _ _ gc, hR.ex (e.trans e2), hl, hlr, q⟩
def sp_law (K : PySem.W.Frag) : Sp := fun vs H Q _ => ∃ (a : Addr) (ns : List Int), vs = [.ref a] ∧ SqL K H a (ns.map V.int) ∧ ns.length ≤ 63 ∧ ∀ H', Q (.bl true) H'
theorem ok_law (T : TX K mg) : FnOk P w K mg base CX0 5 T.a_law T.d_law ["script"] (sp_law K) := by
  refine T.F_law.ok sc_law (fun vs H Q E h => by obtain ⟨a, ns, rfl, _⟩ := h; rfl) (fun cdv A outer s0 H vs Q E hr h => ?_)
  obtain ⟨a, ns, rfl, hS, hlen, k⟩ := h
  refine ⟨_, (pss_cons (ps_set (i := 1) sc_law.nd rfl (Or.inl rfl) (pe_call (ok_law_draw T) (hr.mono (by decide)) (by rfl) T.g_law_draw T.F_law_draw.kp T.b_law_draw .nil pass0 (pa_cons (pe_call (ok_law_cell T) (hr.mono (by decide)) (by rfl) T.g_law_cell T.F_law_cell.kp T.b_law_cell .nil pass0 (pa_cons (pv 0) (pa_cons pe_int pa_nil))) (pa_cons pe_int (pa_cons (pe_op op_shl pe_int pe_int) pa_nil)))))
      (pss_cons (ps_set (i := 2) sc_law.nd rfl (Or.inl rfl) (pe_op op_add pe_int (pe_op op_mod (pe_ix (r := rIxL K) ix_list (pv 1) pe_int (fun _ _ => rfl)) pe_int)))
      (pss_cons (ps_set (i := 3) sc_law.nd rfl (Or.inr rfl) (pe_op op_mod (pe_ix (r := rIxL K) ix_list (pv 1) pe_int (fun _ _ => rfl)) pe_int))
      (pss_cons (ps_set (i := 4) sc_law.nd rfl (Or.inr rfl) (pe_op op_add pe_int (pe_op op_mod (pe_ix (r := rIxL K) ix_list (pv 1) pe_int (fun _ _ => rfl)) pe_int)))
      (pss_cons (ps_set (i := 5) sc_law.nd rfl (Or.inl rfl) (pe_ix (r := rIxL K) ix_list (pv 1) pe_int (fun _ _ => rfl)))
      (pss_cons (ps_setLc (i := 6) (own := [("k", 16)]) (g := gName 16) (tt := tYes) rfl sc_law.nd rfl rfl (sw_true rfl rfl rfl (by decide +kernel)) (pi_range1 (by rfl) T.m_range (pa_cons (pv 2) pa_nil)) (blkOk_by (N := ["script", "sizes", "count", "size", "depth", "rate", "channels", "audio", "first", "second", "data", "kept", "extra", "chunks", "handed", "other", "k"]) (sc := defScope s_law) (by decide +kernel)) (fun _ _ _ _ _ => pg_name (i := 16) sc_law.nd rfl (Or.inl rfl)) (fun _ _ _ _ _ => pts_nil) (fun _ _ _ _ _ => (pe_call (ok_law_channel T) (hr.mono (by decide)) (by rfl) T.g_law_channel T.F_law_channel.kp T.b_law_channel .nil pass0 (pa_cons (pe_call (ok_law_cell T) (hr.mono (by decide)) (by rfl) T.g_law_cell T.F_law_cell.kp T.b_law_cell .nil pass0 (pa_cons (pv 0) (pa_cons (pe_op op_add pe_int (pv 16)) pa_nil))) (pa_cons (pv 3) (pa_cons (pv 4) pa_nil))))))
      (pss_cons (ps_set (i := 7) sc_law.nd rfl (Or.inl rfl) (pe_make T.M_Audio (ok_Audio_init T) (hr.mono (by decide)) (by rfl) T.g_Audio T.b_Audio_init .nil pass0 (pa_cons (pv 5) (pa_cons (pv 4) (pa_cons (pv 6) pa_nil)))))
      (pss_cons (ps_set (i := 8) sc_law.nd rfl (Or.inl rfl) (pe_call (ok_law_chunk T) (hr.mono (by decide)) (by rfl) T.g_law_chunk T.F_law_chunk.kp T.b_law_chunk .nil pass0 (pa_cons (pe_lst (pa_cons pe_int (pa_cons pe_int (pa_cons pe_int (pa_cons pe_int pa_nil))))) (pa_cons (pe_call (ok_law_format T) (hr.mono (by decide)) (by rfl) T.g_law_format T.F_law_format.kp T.b_law_format .nil pass0 (pa_cons (pv 5) (pa_cons (pv 4) (pa_cons (pv 2) pa_nil)))) pa_nil))))
      (pss_cons (ps_set (i := 9) sc_law.nd rfl (Or.inl rfl) (pe_call (ok_law_chunk T) (hr.mono (by decide)) (by rfl) T.g_law_chunk T.F_law_chunk.kp T.b_law_chunk .nil pass0 (pa_cons (pe_lst (pa_cons pe_int (pa_cons pe_int (pa_cons pe_int (pa_cons pe_int pa_nil))))) (pa_cons (pe_call (ok_law_samples T) (hr.mono (by decide)) (by rfl) T.g_law_samples T.F_law_samples.kp T.b_law_samples .nil pass0 (pa_cons (pv 6) (pa_cons (pv 3) (pa_cons (pv 4) pa_nil)))) pa_nil))))
      (pss_cons (ps_set (i := 10) sc_law.nd rfl (Or.inl rfl) (pe_call (ok_write_wave T) (hr.mono (by decide)) (by rfl) T.g_write_wave T.F_write_wave.kp T.b_write_wave .nil pass0 (pa_cons (pv 7) pa_nil)))
      (pss_cons (ps_if (PW.pt (pw_or (pt_not (pt_val (pe_call (ok_law_same T) (hr.mono (by decide)) (by rfl) T.g_law_same T.F_law_same.kp T.b_law_same .nil pass0 (pa_cons (pv 10) (pa_cons (pe_call (ok_law_file T) (hr.mono (by decide)) (by rfl) T.g_law_file T.F_law_file.kp T.b_law_file .nil pass0 (pa_cons (pe_lst (pa_cons (pv 8) (pa_cons (pv 9) pa_nil))) pa_nil)) pa_nil))))) (pw_or1 (pt_not (pt_val (pe_call (ok_law_equal T) (hr.mono (by decide)) (by rfl) T.g_law_equal T.F_law_equal.kp T.b_law_equal .nil pass0 (pa_cons (pv 7) (pa_cons (pv 5) (pa_cons (pv 4) (pa_cons (pv 6) pa_nil)))))))))) (pss_one (ps_ret pe_bl)) pss_nil)
      (pss_cons (ps_if (pt_not (pt_val (pe_call (ok_law_equal T) (hr.mono (by decide)) (by rfl) T.g_law_equal T.F_law_equal.kp T.b_law_equal .nil pass0 (pa_cons (pe_call (ok_read_wave T) (hr.mono (by decide)) (by rfl) T.g_read_wave T.F_read_wave.kp T.b_read_wave .nil pass0 (pa_cons (pe_callTy (r := rListS K) call_list_of (by rfl) T.m_list PyProof.Rows.boot_list (pa_cons (pv 10) pa_nil)) pa_nil)) (pa_cons (pv 5) (pa_cons (pv 4) (pa_cons (pv 6) pa_nil))))))) (pss_one (ps_ret pe_bl)) pss_nil)
      (pss_cons (ps_set (i := 11) sc_law.nd rfl (Or.inl rfl) (pe_callTy (r := rListS K) call_list_of (by rfl) T.m_list PyProof.Rows.boot_list (pa_cons (pv 10) pa_nil)))
      (pss_cons (ps_expr (pe_bm PySem.F.plainAttrs_list PySem.F.slot_list_append PySem.F.type_list_append mt_append (pv 10) (pa_cons pe_int pa_nil)))
      (pss_cons (ps_if (pt_not (pt_val (pe_call (ok_law_same T) (hr.mono (by decide)) (by rfl) T.g_law_same T.F_law_same.kp T.b_law_same .nil pass0 (pa_cons (pe_call (ok_write_wave T) (hr.mono (by decide)) (by rfl) T.g_write_wave T.F_write_wave.kp T.b_write_wave .nil pass0 (pa_cons (pv 7) pa_nil)) (pa_cons (pv 11) pa_nil))))) (pss_one (ps_ret pe_bl)) pss_nil)
      (pss_cons (ps_set (i := 12) sc_law.nd rfl (Or.inl rfl) (pe_call (ok_law_chunk T) (hr.mono (by decide)) (by rfl) T.g_law_chunk T.F_law_chunk.kp T.b_law_chunk .nil pass0 (pa_cons (pe_lst (pa_cons pe_int (pa_cons pe_int (pa_cons (pe_op op_mod (pe_ix (r := rIxL K) ix_list (pv 1) pe_int (fun _ _ => rfl)) pe_int) (pa_cons pe_int pa_nil))))) (pa_cons (pe_call (ok_law_draw T) (hr.mono (by decide)) (by rfl) T.g_law_draw T.F_law_draw.kp T.b_law_draw .nil pass0 (pa_cons (pe_call (ok_law_cell T) (hr.mono (by decide)) (by rfl) T.g_law_cell T.F_law_cell.kp T.b_law_cell .nil pass0 (pa_cons (pv 0) (pa_cons pe_int pa_nil))) (pa_cons (pe_op op_mod (pe_ix (r := rIxL K) ix_list (pv 1) pe_int (fun _ _ => rfl)) pe_int) (pa_cons pe_int pa_nil)))) pa_nil))))
      (pss_cons (ps_set (i := 13) sc_law.nd rfl (Or.inl rfl) (pe_ix (r := rIxL K) ix_list (pe_lst (pa_cons (pe_lst (pa_cons (pv 12) (pa_cons (pv 8) (pa_cons (pv 9) pa_nil)))) (pa_cons (pe_lst (pa_cons (pv 8) (pa_cons (pv 12) (pa_cons (pv 9) pa_nil)))) (pa_cons (pe_lst (pa_cons (pv 8) (pa_cons (pv 9) (pa_cons (pv 12) pa_nil)))) pa_nil)))) (pe_op op_mod (pe_op op_fdiv (pe_ix (r := rIxL K) ix_list (pv 1) pe_int (fun _ _ => rfl)) pe_int) pe_int) (fun _ _ => rfl)))
      (pss_cons (ps_set (i := 14) sc_law.nd rfl (Or.inl rfl) (pe_call (ok_law_file T) (hr.mono (by decide)) (by rfl) T.g_law_file T.F_law_file.kp T.b_law_file .nil pass0 (pa_cons (pv 13) pa_nil)))
      (pss_cons (ps_set (i := 15) sc_law.nd rfl (Or.inl rfl) (pe_callTy (r := rListS K) call_list_of (by rfl) T.m_list PyProof.Rows.boot_list (pa_cons (pv 14) pa_nil)))
      (pss_one (ps_ret (pe_and (pe_call (ok_law_equal T) (hr.mono (by decide)) (by rfl) T.g_law_equal T.F_law_equal.kp T.b_law_equal .nil pass0 (pa_cons (pe_call (ok_read_wave T) (hr.mono (by decide)) (by rfl) T.g_read_wave T.F_read_wave.kp T.b_read_wave .nil pass0 (pa_cons (pv 14) pa_nil)) (pa_cons (pv 5) (pa_cons (pv 4) (pa_cons (pv 6) pa_nil))))) (pe_one (pe_cmpR (op_eqD (hu64 hr)) (pv 14) (pv 15) (nomark _))))))))))))))))))))))))), ?_⟩
  have cell : ∀ (H' : Hp) (σ : L2.St) (E : XK) (i : Int), σ[0]? = some (some (.ref a)) → Ex H H' → 0 ≤ i → Ev (tCall (sp_cell K) [] E (tCons (tVar 0) (tCons (tC (.int i)) tNil))) σ H' (.int (cellI ns i)) := fun H' σ E i hσ e hi => ev_cell (ev_var hσ) (ex_l e hS) ev_c hi
  have sh : ∀ {σ : L2.St} {G : Hp} {t : TE} {j : Nat}, Ev t σ G (.int (j : Int)) → j ≤ 1000 → Ev (tOp (rI CPow fun i j => .int (i * 2 ^ j.toNat)) (tC (.int 1)) t) σ G (.int (2 ^ j)) := fun h hj => Ev.is (SH.ev_shl1 h hj) (by rw [Int.toNat_natCast, Int.one_mul])
  refine q_asgC (vs := [.int (cellI ns 0), .int 6, .int (2 ^ 20)]) (ea_cons (cell H _ _ 0 rfl (Ex.refl _) (by decide)) (ea_cons ev_c (ea_cons (sh (j := 20) ev_c (by decide)) ea_nil))) fun H1 e1 => ⟨_, 6, 2 ^ 20, rfl, by decide, by decide, by decide, by decide, fun ps sz H2 hps e2 gs hsl hsb => ?_⟩
  obtain ⟨s1, s2, s3, s4, s5, s6, rfl⟩ : ∃ s1 s2 s3 s4 s5 s6, sz = [s1, s2, s3, s4, s5, s6] := by
    match sz, hsl with
    | [x1, x2, x3, x4, x5, x6], _ => exact ⟨x1, x2, x3, x4, x5, x6, rfl⟩
  have six : ∀ {σ : L2.St} {G : Hp} {i : Int} {v : V}, Ex H2 G → σ[1]? = some (some (.ref ps)) → atI ([s1, s2, s3, s4, s5, s6].map V.int) i = some v → Ev (tOp (rIxL K) (tVar 1) (tC (.int i))) σ G v := fun e h ha => ev_at (Ev.s (ev_var h) (sq_of (e _ _ gs))) ev_c ha
  obtain ⟨hs4a, hs4b⟩ := hsb s4 (by simp)
  have h20 : (2 : Int) ^ 20 = 1048576 := rfl
  obtain ⟨cn, hcn⟩ : ∃ cn : Nat, 1 + s1 % 8 = (cn : Int) := ⟨(1 + s1 % 8).toNat, by omega⟩
  obtain ⟨n, hn⟩ : ∃ n : Nat, s2 % 9 = (n : Int) := ⟨(s2 % 9).toNat, by omega⟩
  obtain ⟨D, hD⟩ : ∃ D : Nat, 4 + s3 % 29 = (D : Int) := ⟨(4 + s3 % 29).toNat, by omega⟩
  obtain ⟨rate, hrt⟩ : ∃ rate : Nat, s4 = (rate : Int) := ⟨s4.toNat, by omega⟩
  subst hrt
  have md : ∀ {σ : L2.St} {G : Hp} {t : TE} {x m : Int}, 0 < m → Ev t σ G (.int x) → Ev (tOp (rI (fun _ j => 0 < j) fun i j => .int (i % j)) t (tC (.int m))) σ G (.int (x % m)) := fun hm h => ev_I h ev_c hm
  refine q_asg (v := .int (cn : Int)) (Ev.is (ev_I0 (g := fun i j => .int (i + j)) ev_c (md (by decide) (six (Ex.refl _) rfl (at_of (j := 0) rfl rfl)))) (congrArg V.int hcn)) fun H3 e3 => ?_
  refine q_asg (v := .int (n : Int)) (Ev.is (md (by decide) (six e3 rfl (at_of (j := 1) rfl rfl))) (congrArg V.int hn)) fun H4 e4 => ?_
  refine q_asg (v := .int (D : Int)) (Ev.is (ev_I0 (g := fun i j => .int (i + j)) ev_c (md (by decide) (six (e3.trans e4) rfl (at_of (j := 2) rfl rfl)))) (congrArg V.int hD)) fun H5 e5 => ?_
  refine q_asg (v := .int (rate : Int)) (six (e3.trans (e4.trans e5)) rfl (at_of (j := 3) rfl rfl)) fun H5b e5b => ?_
  have e25 := e3.trans (e4.trans (e5.trans e5b))
  have e15 := e1.trans (e2.trans e25)
  show tSeq _ _ _ [some (.ref a), some (.ref ps), some (.int (cn : Int)), some (.int (n : Int)), some (.int (D : Int)), some (.int (rate : Int)), none, none, none, none, none, none, none, none, none, none, none] _
  refine q_goT (tlc_rngE (n := (cn : Int)) (ea_cons (ev_var rfl) ea_nil) (by omega) fun H6 e6 L hL => ⟨fun i H' => ∃ (as : List Addr) (rs : List (List Int)), Ex H6 H' ∧ H' L = some (.lst (as.map V.ref)) ∧ as.length = i ∧ RwAt H' as rs ∧ (∀ b ∈ as, b ≠ L) ∧ (∀ r ∈ rs, r.length = n ∧ ∀ x ∈ r, -(2 ^ (D - 1)) ≤ x ∧ x < 2 ^ (D - 1)), ⟨[], [], Ex.new hL, upd_same, rfl, ⟨rfl, (fun j b r h _ => by cases h)⟩, (fun b hb => by cases hb), (fun r hr => by cases hr)⟩, fun i H' hi h => ⟨rfl, ?_⟩, fun H7 h => ?_⟩)
  · obtain ⟨as, rs, ex, gL, hal, hR, hne, hrs⟩ := h
    refine ea_go (vs := [.int (cellI ns (1 + (i : Int))), .int (n : Int), .int (D : Int)]) (ea_cons (ev_cell (ev_var rfl) (ex_l (e15.trans (e6.trans ex)) hS) (ev_I0 (g := fun i j => .int (i + j)) ev_c (ev_var rfl)) (by omega)) (ea_cons (ev_var rfl) (ea_cons (ev_var rfl) ea_nil))) fun G eG => ⟨_, n, D, rfl, by omega, by omega, by omega, fun p r H7 hp e7 gp hrl hrb => ?_⟩
    have e07 := eG.trans e7
    have gL7 := e07 _ _ gL
    have hpL : p ≠ L := by rintro rfl; rw [eG _ _ gL] at hp; cases hp
    refine ⟨_, gL7, sz_lt (by rw [List.length_map, hal]; omega), as ++ [p], rs ++ [r], Ex.mut (ex.trans e07) hL, by rw [upd_same, List.map_append]; rfl, by rw [List.length_append, hal]; rfl, ?_, fun b hb => ?_, fun q hq => ?_⟩
    · exact ((hR.mut e07 hne).snoc (by rw [upd_ne hpL]; exact gp))
    · rcases List.mem_append.mp hb with hb | hb
      · exact hne b hb
      · rw [List.mem_singleton.mp hb]; exact hpL
    · rcases List.mem_append.mp hq with hq | hq
      · exact hrs q hq
      · rw [List.mem_singleton.mp hq]; exact ⟨hrl, hrb⟩
  obtain ⟨as, rs, e7, gL, hal, hR, _, hrs⟩ := h
  rw [Int.toNat_natCast] at hal
  have hrl : rs.length = cn := by rw [← hR.1, hal]
  have hW : Rws D n rs := ⟨fun r hr => (hrs r hr).1, fun r hr => (hrs r hr).2⟩
  have hlr : ∀ r ∈ rs, r.length ≤ 1000 := fun r hr => by rw [(hrs r hr).1]; omega
  clear hrs
  have e27 := e25.trans (e6.trans e7)
  have e17 := e1.trans (e2.trans e27)
  have b1 : 1 ≤ rs.length := by omega
  have b8 : rs.length ≤ 8 := by omega
  have hne0 : rs ≠ [] := by intro h; rw [h] at b1; exact absurd b1 (by decide)
  have n8 : n ≤ 8 := by omega
  have d4 : 4 ≤ D := by omega
  have d32 : D ≤ 32 := by omega
  have r20 : rate ≤ 1048575 := by omega
  clear e1 e2 e3 e4 e5 e5b e6 e7 e25 e15
  show tSeq _ _ _ [some (.ref a), some (.ref ps), some (.int (cn : Int)), some (.int (n : Int)), some (.int (D : Int)), some (.int (rate : Int)), some (.ref L), none, none, none, none, none, none, none, none, none, none] _
  refine q_asgN (en_aud T (ev_var rfl) (ev_var rfl) (Ev.x (ev_var rfl) fun G eG => ⟨L, as, rfl, eG _ _ gL, hR.ex eG⟩) (by omega)) fun au H8 hau e8 hA => ?_
  have hfl : (frmB rate D rs.length).length ≤ 40 := by rw [frmB_len]; split <;> omega
  have hdl := datB_le b8 n8 d32 (rs := rs)
  obtain ⟨fm, hfm⟩ : ∃ fm, chB frmN (frmB rate D rs.length) = fm := ⟨_, rfl⟩
  obtain ⟨dm, hdm⟩ : ∃ dm, chB datN (datB D rs n) = dm := ⟨_, rfl⟩
  have hfml : fm.length ≤ 100 := by rw [← hfm, chB_len]; show 4 + 4 + _ + _ ≤ _; omega
  have hdml : dm.length ≤ 300 := by rw [← hdm, chB_len]; show 4 + 4 + _ + _ ≤ _; omega
  refine q_asgL (xs := fm.map V.int) (EvL.is (el_lchk (nm := frmN) (ds := frmB rate D rs.length) (EvL.r (el_lst (ea_cons ev_c (ea_cons ev_c (ea_cons ev_c (ea_cons ev_c ea_nil)))) (by decide))) (EvL.r (el_call (ea_cons (ev_var rfl) (ea_cons (ev_var rfl) (ea_cons (ev_var rfl) ea_nil))) fun G e Q2 q2 _ => ⟨rate, D, rs.length, by rw [hrl]; rfl, b8, d32, by omega, q2⟩)) (by decide) (by omega)) (by rw [hfm])) fun pf H9 hpf e9 gf => ?_
  have e79 := e8.trans e9
  refine q_asgL (xs := dm.map V.int) (EvL.is (el_lchk (nm := datN) (ds := datB D rs n) (EvL.r (el_lst (ea_cons ev_c (ea_cons ev_c (ea_cons ev_c (ea_cons ev_c ea_nil)))) (by decide))) (EvL.r (el_call (ea_cons (ev_var rfl) (ea_cons (ev_var rfl) (ea_cons (ev_var rfl) ea_nil))) fun G e Q2 q2 _ => ⟨L, as, n, D, rs, rfl, (e79.trans e) _ _ gL, hR.ex (e79.trans e), b8, n8, d4, d32, hW, q2⟩)) (by decide) (by omega)) (by rw [hdm])) fun pd H10 hpd e10 gd => ?_
  -- what stands from here on
  have gL10 := (e79.trans e10) _ _ gL
  have hR10 := hR.ex (e79.trans e10)
  have hA10 := hA.ex (e9.trans e10)
  have gf10 := e10 _ _ gf
  have gs10 := (e27.trans (e79.trans e10)) _ _ gs
  have hS10 := ex_l (e17.trans (e79.trans e10)) hS
  clear six cell hS gs gL hR hA gf e8 e9 e10 e79 e27 e17 hau hpf hpd hps
  show tSeq _ _ _ [some (.ref a), some (.ref ps), some (.int (cn : Int)), some (.int (n : Int)), some (.int (D : Int)), some (.int (rate : Int)), some (.ref L), some (.ref au), some (.ref pf), some (.ref pd), none, none, none, none, none, none, none] _
  have ww : ∀ {σ : L2.St} {G : Hp} {E : XK}, σ[7]? = some (some (.ref au)) → Ex H10 G → EvL (tCall (sp_ww T.C_Audio) [] E (tCons (tVar 7) tNil)) σ G ((filB (fm ++ dm)).map V.int) := fun h e => el_call (ea_cons (ev_var h) ea_nil) fun G e2 Q2 q2 _ => ⟨au, rate, D, n, rs, rfl, hA10.ex (e.trans e2), hne0, b8, n8, d4, d32, by omega, hW, by rw [hfm, hdm]; exact q2⟩
  have leq : ∀ {σ : L2.St} {G : Hp} {E : XK} {te : TE}, σ[5]? = some (some (.int (rate : Int))) → σ[4]? = some (some (.int (D : Int))) → σ[6]? = some (some (.ref L)) → Ex H10 G → EvX te σ G (fun v G => ∃ a, v = .ref a ∧ AudAt T.C_Audio G a rate D rs) → Ev (tCall (sp_leq T.C_Audio) [] E (tCons te (tCons (tVar 5) (tCons (tVar 4) (tCons (tVar 6) tNil))))) σ G (.bl true) := fun h5 h4 h6 e h => ev_leq T h (ev_var h5) (ev_var h4) (ev_var h6) (e _ _ gL10) (hR10.ex e) (by omega) hlr
  have hful : (filB (fm ++ dm)).length ≤ 1000 := by rw [fil_len, List.length_append]; omega
  refine q_asgL (xs := (filB (fm ++ dm)).map V.int) (ww rfl (Ex.refl _)) fun pw H11 hpw e11 gw => ?_
  refine q_when (b := false) (et_is (et_or (a := false) (b := false) (et_is (et_not (et_B (ev_same (ns := filB (fm ++ dm)) (Ev.r (ev_var rfl) gw) (EvL.r (EvL.is (el_lfl (css := [fm, dm]) (fun G0 eG0 Q0 q0 => el_lst (ea_cons (ev_var (v := .ref pf) rfl) (ea_cons (ev_var (v := .ref pd) rfl) ea_nil)) (Nat.le_of_ble_eq_true rfl) G0 eG0 Q0 fun l G1 hl eG1 gl => q0 (.ref l) G1 eG1 ⟨l, [pf, pd], rfl, gl, rw_cons ((e11.trans (eG0.trans eG1)) _ _ gf10) (rw_cons ((e11.trans (eG0.trans eG1)) _ _ gd) rw_nil)⟩) (fun c hc => by
    rcases List.mem_cons.mp hc with rfl | hc
    · omega
    · rw [List.mem_singleton.mp hc]; omega) (Nat.le_of_ble_eq_true rfl)) (by rw [show [fm, dm].flatten = fm ++ dm by simp]))) (by omega)))) rfl) fun _ => et_is (et_not (et_B (leq rfl rfl rfl e11 (Ev.x (ev_var rfl) fun G eG => ⟨au, rfl, hA10.ex (e11.trans eG)⟩)))) rfl) rfl) (fun hb => by cases hb) fun _ H12 e12 => ?_
  have e1112 := e11.trans e12
  refine q_when (b := false) (et_is (et_not (et_B (leq rfl rfl rfl e1112 (ex_rw T (ds := filB (fm ++ dm)) (A := []) (B := []) (r := []) (n := n) (EvR.s (EvL.r (el_of (K := K) (Ev.s (ev_var rfl) (sq_of (e12 _ _ gw)))))) (by rw [hfm, hdm]; unfold cks; simp) (fun c hc => by cases hc) (fun c hc => by cases hc) b1 b8 n8 d4 d32 r20 (by omega) hW)))) rfl) (fun hb => by cases hb) fun _ H13 e13 => ?_
  have gw13 := (e12.trans e13) _ _ gw
  refine q_asgL (el_of (K := K) (Ev.s (ev_var rfl) (sq_of gw13))) fun pk H14 hpk e14 gk => ?_
  have hpkw : pk ≠ pw := by rintro rfl; rw [gw13] at hpk; cases hpk
  refine q_app (v := .int 0) (e14 _ _ gw13) (ev_var rfl) ev_c (by rw [List.length_map]; omega) fun H15 e15 => ?_
  have eM := Ex.mut (o := .lst ((filB (fm ++ dm)).map V.int ++ [V.int 0])) (e1112.trans (e13.trans (e14.trans e15))) hpw
  have gk16 : upd H15 pw (.lst ((filB (fm ++ dm)).map V.int ++ [V.int 0])) pk = some (.lst ((filB (fm ++ dm)).map V.int)) := by
    rw [upd_ne hpkw]
    exact e15 _ _ gk
  generalize upd H15 pw (.lst ((filB (fm ++ dm)).map V.int ++ [V.int 0])) = H16 at *
  clear e11 e12 e13 e14 e15 e1112 gw gw13 gk hpw hpk hpkw
  show tSeq _ _ _ [some (.ref a), some (.ref ps), some (.int (cn : Int)), some (.int (n : Int)), some (.int (D : Int)), some (.int (rate : Int)), some (.ref L), some (.ref au), some (.ref pf), some (.ref pd), some (.ref pw), some (.ref pk), none, none, none, none, none] _
  refine q_when (b := false) (et_is (et_not (et_B (ev_same (ns := filB (fm ++ dm)) (EvL.r (ww rfl eM)) (Ev.r (ev_var rfl) gk16) (by omega)))) rfl) (fun hb => by cases hb) fun _ H17 e17 => ?_
  have eN := eM.trans e17
  clear eM e17 gk16
  have six : ∀ {σ : L2.St} {G : Hp} {i : Int} {v : V}, Ex H10 G → σ[1]? = some (some (.ref ps)) → atI ([s1, s2, s3, (rate : Int), s5, s6].map V.int) i = some v → Ev (tOp (rIxL K) (tVar 1) (tC (.int i))) σ G v := fun e h ha => ev_at (Ev.s (ev_var h) (sq_of (e _ _ gs10))) ev_c ha
  refine q_asgAP (ap_l (xs := [.int 65, .int 98, .int (s5 % 256), .int 33]) (el_lst (ea_cons ev_c (ea_cons ev_c (ea_cons (md (by decide) (six eN rfl (at_of (j := 4) rfl rfl))) (ea_cons ev_c ea_nil)))) (Nat.le_of_ble_eq_true rfl)) (ap_x (S := fun v G => ∃ (p : Addr) (xs : List Int), v = .ref p ∧ G p = some (.lst (xs.map V.int)) ∧ (xs.length : Int) = s6 % 6) (fun G eG Q0 q0 => (ea_go (vs := [.int (cellI ns 9), .int (s6 % 6), .int 256]) (ea_cons (ev_cell (ev_var rfl) (ex_l (eN.trans eG) hS10) ev_c (by decide)) (ea_cons (md (by decide) (six (eN.trans eG) rfl (at_of (j := 5) rfl rfl))) (ea_cons ev_c ea_nil))) fun G1 eG1 => ⟨_, s6 % 6, 256, rfl, by omega, by omega, by decide, by decide, fun p xs G2 hp e2 gp hxl hxb => q0 (.ref p) G2 (eG1.trans e2) ⟨p, xs, rfl, gp, hxl⟩⟩)) (fun v G G' e ⟨p, xs, h1, h2, h3⟩ => ⟨p, xs, h1, e _ _ h2, h3⟩) ap_nil)) fun vs H18 e18 hR18 => ?_
  obtain ⟨pn, _, rfl, _, gn, _, _, rfl, ⟨px, xs, rfl, gx, hxl⟩, rfl⟩ := hR18
  refine ⟨pn, px, [65, 98, s5 % 256, 33], xs, rfl, gn, gx, Nat.le_of_ble_eq_true rfl, by omega, fun pe H19 hpe e19 ge => ?_⟩
  have hXt : Xt ([65, 98, s5 % 256, 33], xs) := ⟨rfl, fun h => by injection h with h1 _; exact absurd h1 (by decide), fun h => by injection h with h1 _; exact absurd h1 (by decide), by show xs.length ≤ _; omega⟩
  obtain ⟨xm, hxm⟩ : ∃ xm, chB [65, 98, s5 % 256, 33] xs = xm := ⟨_, rfl⟩
  have hxml : xm.length ≤ 100 := by rw [← hxm, chB_len]; show 4 + 4 + _ + _ ≤ _; omega
  rw [hxm] at ge
  have e1019 := eN.trans (e18.trans e19)
  have hx1000 : xm.length ≤ 1000 ∧ fm.length ≤ 1000 ∧ dm.length ≤ 1000 := by omega
  obtain ⟨j, hj3, hj⟩ : ∃ j : Nat, j < 3 ∧ s5 / 256 % 3 = (j : Int) := ⟨(s5 / 256 % 3).toNat, by omega, by omega⟩
  obtain ⟨css, hcss⟩ : ∃ css, [[xm, fm, dm], [fm, xm, dm], [fm, dm, xm]][j]? = some css := ⟨_, List.getElem?_eq_getElem (by show j < 3; exact hj3)⟩
  have hc : (∀ c ∈ css, c.length ≤ 1000) ∧ css.length = 3 ∧ ∃ A B r, filB css.flatten = filB (cks A ++ (chB frmN (frmB rate D rs.length) ++ (cks B ++ (chB datN (datB D rs n) ++ r)))) ∧ (∀ c ∈ A, Xt c) ∧ (∀ c ∈ B, Xt c) ∧ css.flatten.length = xm.length + fm.length + dm.length := by
    have h1 : ∀ c ∈ [([65, 98, s5 % 256, 33], xs)], Xt c := fun c hc => by rw [List.mem_singleton.mp hc]; exact hXt
    have h0 : ∀ c ∈ ([] : List (List Int × List Int)), Xt c := fun c hc => by cases hc
    have hm3 : ∀ {x y z : List Int}, x.length ≤ 1000 → y.length ≤ 1000 → z.length ≤ 1000 → ∀ c ∈ [x, y, z], c.length ≤ 1000 := fun hx hy hz c hc => by
      rcases List.mem_cons.mp hc with rfl | hc
      · exact hx
      · rcases List.mem_cons.mp hc with rfl | hc
        · exact hy
        · rw [List.mem_singleton.mp hc]; exact hz
    have hck : cks [([65, 98, s5 % 256, 33], xs)] = xm := by unfold cks; rw [List.flatMap_cons, List.flatMap_nil, List.append_nil]; exact hxm
    rw [hfm, hdm]
    match j, hcss with
    | 0, hcss =>
      cases hcss
      exact ⟨hm3 hx1000.1 hx1000.2.1 hx1000.2.2, rfl, _, [], [], by rw [hck]; simp [cks], h1, h0, by simp; omega⟩
    | 1, hcss =>
      cases hcss
      exact ⟨hm3 hx1000.2.1 hx1000.1 hx1000.2.2, rfl, [], _, [], by rw [hck]; simp [cks], h0, h1, by simp; omega⟩
    | 2, hcss =>
      cases hcss
      exact ⟨hm3 hx1000.2.1 hx1000.2.2 hx1000.1, rfl, [], [], xm, by simp [cks], h0, h0, by simp; omega⟩
  obtain ⟨hc1, hc3, A, B, r, hfil, hAx, hBx, hcl⟩ := hc
  have l3 : ∀ {G : Hp}, Ex H19 G → ∀ {x y z : Addr} {cx cy cz : List Int}, H19 x = some (.lst (cx.map V.int)) → H19 y = some (.lst (cy.map V.int)) → H19 z = some (.lst (cz.map V.int)) → RwAt G [x, y, z] [cx, cy, cz] := fun e _ _ _ _ _ _ hx hy hz => rw_cons (e _ _ hx) (rw_cons (e _ _ hy) (rw_cons (e _ _ hz) rw_nil))
  have gf19 := e1019 _ _ gf10
  have gd19 := e1019 _ _ gd
  refine q_asgX (S := LsAt css) (ex_ixAP (i := (j : Int)) (ap_l (el_lst (ea_cons (ev_var (v := .ref pe) rfl) (ea_cons (ev_var (v := .ref pf) rfl) (ea_cons (ev_var (v := .ref pd) rfl) ea_nil))) (Nat.le_of_ble_eq_true rfl)) (ap_l (el_lst (ea_cons (ev_var (v := .ref pf) rfl) (ea_cons (ev_var (v := .ref pe) rfl) (ea_cons (ev_var (v := .ref pd) rfl) ea_nil))) (Nat.le_of_ble_eq_true rfl)) (ap_l (el_lst (ea_cons (ev_var (v := .ref pf) rfl) (ea_cons (ev_var (v := .ref pd) rfl) (ea_cons (ev_var (v := .ref pe) rfl) ea_nil))) (Nat.le_of_ble_eq_true rfl)) ap_nil))) (fun vs G hR => by obtain ⟨_, _, rfl, _, _, _, _, rfl, _, _, _, _, rfl, _, _, rfl⟩ := hR; exact Nat.le_of_ble_eq_true rfl) (Ev.is (md (by decide) (ev_I (six e1019 rfl (at_of (j := 4) rfl rfl)) ev_c ⟨by decide, by decide⟩)) (congrArg V.int hj)) (fun v G G' e ⟨l, as, h1, h2, h3⟩ => ⟨l, as, h1, e _ _ h2, h3.ex e⟩) (fun vs G eG hR => ?_)) fun v H20 e20 hLs => ?_
  · obtain ⟨p1, _, rfl, _, g1, p2, _, rfl, _, g2, p3, _, rfl, _, g3, rfl⟩ := hR
    match j, hcss with
    | 0, hcss =>
      cases hcss
      exact ⟨.ref p1, at_of (j := 0) rfl rfl, p1, [pe, pf, pd], rfl, g1, l3 eG ge gf19 gd19⟩
    | 1, hcss =>
      cases hcss
      exact ⟨.ref p2, at_of (j := 1) rfl rfl, p2, [pf, pe, pd], rfl, g2, l3 eG gf19 ge gd19⟩
    | 2, hcss =>
      cases hcss
      exact ⟨.ref p3, at_of (j := 2) rfl rfl, p3, [pf, pd, pe], rfl, g3, l3 eG gf19 gd19 ge⟩
  obtain ⟨lc, ac, rfl, glc, hRc⟩ := hLs
  have e1020 := e1019.trans e20
  have hfl2 : (filB css.flatten).length ≤ 1000 := by rw [fil_len, hcl]; omega
  refine q_asgL (el_lfl (css := css) (Ev.x (ev_var rfl) fun G eG => ⟨lc, ac, rfl, eG _ _ glc, hRc.ex eG⟩) hc1 (by omega)) fun ph H21 hph e21 gh => ?_
  refine q_asgL (el_of (K := K) (Ev.s (ev_var rfl) (sq_of gh))) fun po H22 hpo e22 go => ?_
  have gh22 := e22 _ _ gh
  refine s_ret (v := .bl true) (Ev.is (ev_andV (leq rfl rfl rfl (e1020.trans (e21.trans e22)) (ex_rw T (ds := filB css.flatten) (A := A) (B := B) (r := r) (n := n) (Ev.s (ev_var rfl) (sq_of gh22)) hfil hAx hBx b1 b8 n8 d4 d32 r20 (by omega) hW)) fun _ => ev_eqI (K := K) (Ev.s (ev_var rfl) (sq_of gh22)) (Ev.s (ev_var rfl) (sq_of go))) (by rw [decide_eq_true rfl]; rfl)) fun H23 _ => k _

end
theorem ml1 {α : Type} : ∀ {us : List α}, us.length = 1 → ∃ x0, us = [x0]
  | [x0], _ => ⟨x0, rfl⟩
theorem ml2 {α : Type} : ∀ {us : List α}, us.length = 2 → ∃ x0 x1, us = [x0, x1]
  | [x0, x1], _ => ⟨x0, x1, rfl⟩
theorem ml3 {α : Type} : ∀ {us : List α}, us.length = 3 → ∃ x0 x1 x2, us = [x0, x1, x2]
  | [x0, x1, x2], _ => ⟨x0, x1, x2, rfl⟩
theorem ml4 {α : Type} : ∀ {us : List α}, us.length = 4 → ∃ x0 x1 x2 x3, us = [x0, x1, x2, x3]
  | [x0, x1, x2, x3], _ => ⟨x0, x1, x2, x3, rfl⟩
set_option maxHeartbeats 0 in
theorem all_mk {l : PySem.W.OpenLaw} {w : World} {K : PySem.W.Frag} {h : Heap} {mg : Str → Option Value} {fa : Addr} {f1 f2 f3 f4 f5 f6 f7 f8 f9 f10 f11 f12 f13 f14 f15 f16 f17 f18 f19 f20 f21 f22 f23 f24 f25 f26 f27 C_Audio A_RIFF A_WAVE A_FORM A_DATA A_SIGN_BYTES A_SAMPLE_SIZES : Addr} (X : K.In h) (G : h.Ns mainGlobals mg) (hfa : mg "law" = some (.ref fa))
    {od1 an1 : Option Addr} {sl1 : Array (Option Value)} {oc1 dc1 pm1 cd1 ct1 : Value} {kV1 : Value} {od2 an2 : Option Addr} {sl2 : Array (Option Value)} {oc2 dc2 pm2 cd2 ct2 : Value} {kV2 : Value} {od3 an3 : Option Addr} {sl3 : Array (Option Value)} {oc3 dc3 pm3 cd3 ct3 : Value} {kV3 : Value} {od4 an4 : Option Addr} {sl4 : Array (Option Value)} {oc4 dc4 pm4 cd4 ct4 : Value} {kV4 : Value} {od5 an5 : Option Addr} {sl5 : Array (Option Value)} {oc5 dc5 pm5 cd5 ct5 : Value} {kV5 : Value} {od6 an6 : Option Addr} {sl6 : Array (Option Value)} {oc6 dc6 pm6 cd6 ct6 : Value} {kV6 : Value} {od7 an7 : Option Addr} {sl7 : Array (Option Value)} {oc7 dc7 pm7 cd7 ct7 : Value} {kV7 : Value} {od8 an8 : Option Addr} {sl8 : Array (Option Value)} {oc8 dc8 pm8 cd8 ct8 : Value} {kV8 : Value} {od9 an9 : Option Addr} {sl9 : Array (Option Value)} {oc9 dc9 pm9 cd9 ct9 : Value} {kV9 : Value} {od10 an10 : Option Addr} {sl10 : Array (Option Value)} {oc10 dc10 pm10 cd10 ct10 : Value} {kV10 : Value} {od11 an11 : Option Addr} {sl11 : Array (Option Value)} {oc11 dc11 pm11 cd11 ct11 : Value} {kV11 : Value} {od12 an12 : Option Addr} {sl12 : Array (Option Value)} {oc12 dc12 pm12 cd12 ct12 : Value} {kV12 : Value} {od13 an13 : Option Addr} {sl13 : Array (Option Value)} {oc13 dc13 pm13 cd13 ct13 : Value} {kV13 : Value} {od14 an14 : Option Addr} {sl14 : Array (Option Value)} {oc14 dc14 pm14 cd14 ct14 : Value} {kV14 : Value} {od15 an15 : Option Addr} {sl15 : Array (Option Value)} {oc15 dc15 pm15 cd15 ct15 : Value} {kV15 : Value} {od16 an16 : Option Addr} {sl16 : Array (Option Value)} {oc16 dc16 pm16 cd16 ct16 : Value} {kV16 : Value} {od17 an17 : Option Addr} {sl17 : Array (Option Value)} {oc17 dc17 pm17 cd17 ct17 : Value} {kV17 : Value} {od18 an18 : Option Addr} {sl18 : Array (Option Value)} {oc18 dc18 pm18 cd18 ct18 : Value} {kV18 : Value} {od19 an19 : Option Addr} {sl19 : Array (Option Value)} {oc19 dc19 pm19 cd19 ct19 : Value} {kV19 : Value} {od20 an20 : Option Addr} {sl20 : Array (Option Value)} {oc20 dc20 pm20 cd20 ct20 : Value} {kV20 : Value} {od21 an21 : Option Addr} {sl21 : Array (Option Value)} {oc21 dc21 pm21 cd21 ct21 : Value} {kV21 : Value} {od22 an22 : Option Addr} {sl22 : Array (Option Value)} {oc22 dc22 pm22 cd22 ct22 : Value} {kV22 : Value} {od23 an23 : Option Addr} {sl23 : Array (Option Value)} {oc23 dc23 pm23 cd23 ct23 : Value} {kV23 : Value} {od24 an24 : Option Addr} {sl24 : Array (Option Value)} {oc24 dc24 pm24 cd24 ct24 : Value} {kV24 : Value} {od25 an25 : Option Addr} {sl25 : Array (Option Value)} {oc25 dc25 pm25 cd25 ct25 : Value} {kV25 : Value} {od26 an26 : Option Addr} {sl26 : Array (Option Value)} {oc26 dc26 pm26 cd26 ct26 : Value} {kV26 : Value} {od27 an27 : Option Addr} {sl27 : Array (Option Value)} {oc27 dc27 pm27 cd27 ct27 : Value} {kV27 : Value} {wRIFF_0 wRIFF_1 wRIFF_2 wRIFF_3 : Value} {nxRIFF : Nat} {sxRIFF : Array (Option Value)} {wWAVE_0 wWAVE_1 wWAVE_2 wWAVE_3 : Value} {nxWAVE : Nat} {sxWAVE : Array (Option Value)} {wFORM_0 wFORM_1 wFORM_2 wFORM_3 : Value} {nxFORM : Nat} {sxFORM : Array (Option Value)} {wDATA_0 wDATA_1 wDATA_2 wDATA_3 : Value} {nxDATA : Nat} {sxDATA : Array (Option Value)} {u_FILE_HEAD : Value} {u_CHUNK_HEAD : Value} {u_PLAIN : Value} {u_EXTENDED : Value} {u_PLAIN_LENGTH : Value} {u_EXTENDED_LENGTH : Value} {u_CHANNELS : Value} {u_RATE : Value} {u_ROW_BYTES : Value} {u_SAMPLE_BITS : Value} {u_DEPTH : Value} {u_SIGN : Value} {wSIGN_BYTES_0 wSIGN_BYTES_1 wSIGN_BYTES_2 wSIGN_BYTES_3 wSIGN_BYTES_4 wSIGN_BYTES_5 wSIGN_BYTES_6 wSIGN_BYTES_7 wSIGN_BYTES_8 wSIGN_BYTES_9 wSIGN_BYTES_10 wSIGN_BYTES_11 wSIGN_BYTES_12 wSIGN_BYTES_13 wSIGN_BYTES_14 wSIGN_BYTES_15 : Value} {nxSIGN_BYTES : Nat} {sxSIGN_BYTES : Array (Option Value)} {u_MOST_RATE : Value} {wSAMPLE_SIZES_0 wSAMPLE_SIZES_1 wSAMPLE_SIZES_2 wSAMPLE_SIZES_3 : Value} {nxSAMPLE_SIZES : Nat} {sxSAMPLE_SIZES : Array (Option Value)}
    (a1 : PySem.W.findIn K (.ref C_Audio) "__init__" = some (some (.ref f1))) (i1 : PySem.W.isFn K (.ref f1) = true)
    (l1 : K.lookup f1 = some ⟨oc1, od1, .func (PySem.W.fnOf "__init__" "Audio.__init__" (defArgs s_Audio_init) (defBody s_Audio_init) (defScope s_Audio_init) .none kV1 dc1 pm1 an1 cd1 ct1), sl1⟩) (c1 : PySem.W.codeIn K cd1 "Audio.__init__" = true) (k1 : PySem.W.keepIn K (.ref f1) = true)
    (a2 : PySem.W.findIn K (.ref C_Audio) "__eq__" = some (some (.ref f2))) (i2 : PySem.W.isFn K (.ref f2) = true)
    (l2 : K.lookup f2 = some ⟨oc2, od2, .func (PySem.W.fnOf "__eq__" "Audio.__eq__" (defArgs s_Audio_eq) (defBody s_Audio_eq) (defScope s_Audio_eq) .none kV2 dc2 pm2 an2 cd2 ct2), sl2⟩) (c2 : PySem.W.codeIn K cd2 "Audio.__eq__" = true) (k2 : PySem.W.keepIn K (.ref f2) = true)
    (a3 : PySem.W.nsIn K mainGlobals "little_bytes" = some (some (.ref f3)))
    (l3 : K.lookup f3 = some ⟨oc3, od3, .func (PySem.W.fnOf "little_bytes" "little_bytes" (defArgs s_little_bytes) (defBody s_little_bytes) (defScope s_little_bytes) .none kV3 dc3 pm3 an3 cd3 ct3), sl3⟩) (c3 : PySem.W.codeIn K cd3 "little_bytes" = true) (k3 : PySem.W.keepIn K (.ref f3) = true)
    (a4 : PySem.W.nsIn K mainGlobals "little_number" = some (some (.ref f4)))
    (l4 : K.lookup f4 = some ⟨oc4, od4, .func (PySem.W.fnOf "little_number" "little_number" (defArgs s_little_number) (defBody s_little_number) (defScope s_little_number) .none kV4 dc4 pm4 an4 cd4 ct4), sl4⟩) (c4 : PySem.W.codeIn K cd4 "little_number" = true) (k4 : PySem.W.keepIn K (.ref f4) = true)
    (a5 : PySem.W.nsIn K mainGlobals "write_wave" = some (some (.ref f5)))
    (l5 : K.lookup f5 = some ⟨oc5, od5, .func (PySem.W.fnOf "write_wave" "write_wave" (defArgs s_write_wave) (defBody s_write_wave) (defScope s_write_wave) .none kV5 dc5 pm5 an5 cd5 ct5), sl5⟩) (c5 : PySem.W.codeIn K cd5 "write_wave" = true) (k5 : PySem.W.keepIn K (.ref f5) = true)
    (a6 : PySem.W.nsIn K mainGlobals "read_wave" = some (some (.ref f6)))
    (l6 : K.lookup f6 = some ⟨oc6, od6, .func (PySem.W.fnOf "read_wave" "read_wave" (defArgs s_read_wave) (defBody s_read_wave) (defScope s_read_wave) .none kV6 dc6 pm6 an6 cd6 ct6), sl6⟩) (c6 : PySem.W.codeIn K cd6 "read_wave" = true) (k6 : PySem.W.keepIn K (.ref f6) = true)
    (a7 : PySem.W.nsIn K mainGlobals "_sample_bytes" = some (some (.ref f7)))
    (l7 : K.lookup f7 = some ⟨oc7, od7, .func (PySem.W.fnOf "_sample_bytes" "_sample_bytes" (defArgs s_sample_bytes) (defBody s_sample_bytes) (defScope s_sample_bytes) .none kV7 dc7 pm7 an7 cd7 ct7), sl7⟩) (c7 : PySem.W.codeIn K cd7 "_sample_bytes" = true) (k7 : PySem.W.keepIn K (.ref f7) = true)
    (a8 : PySem.W.nsIn K mainGlobals "_chunk" = some (some (.ref f8)))
    (l8 : K.lookup f8 = some ⟨oc8, od8, .func (PySem.W.fnOf "_chunk" "_chunk" (defArgs s_chunk) (defBody s_chunk) (defScope s_chunk) .none kV8 dc8 pm8 an8 cd8 ct8), sl8⟩) (c8 : PySem.W.codeIn K cd8 "_chunk" = true) (k8 : PySem.W.keepIn K (.ref f8) = true)
    (a9 : PySem.W.nsIn K mainGlobals "_form_content" = some (some (.ref f9)))
    (l9 : K.lookup f9 = some ⟨oc9, od9, .func (PySem.W.fnOf "_form_content" "_form_content" (defArgs s_form_content) (defBody s_form_content) (defScope s_form_content) .none kV9 dc9 pm9 an9 cd9 ct9), sl9⟩) (c9 : PySem.W.codeIn K cd9 "_form_content" = true) (k9 : PySem.W.keepIn K (.ref f9) = true)
    (a10 : PySem.W.nsIn K mainGlobals "_data_content" = some (some (.ref f10)))
    (l10 : K.lookup f10 = some ⟨oc10, od10, .func (PySem.W.fnOf "_data_content" "_data_content" (defArgs s_data_content) (defBody s_data_content) (defScope s_data_content) .none kV10 dc10 pm10 an10 cd10 ct10), sl10⟩) (c10 : PySem.W.codeIn K cd10 "_data_content" = true) (k10 : PySem.W.keepIn K (.ref f10) = true)
    (a11 : PySem.W.nsIn K mainGlobals "_read_chunk" = some (some (.ref f11)))
    (l11 : K.lookup f11 = some ⟨oc11, od11, .func (PySem.W.fnOf "_read_chunk" "_read_chunk" (defArgs s_read_chunk) (defBody s_read_chunk) (defScope s_read_chunk) .none kV11 dc11 pm11 an11 cd11 ct11), sl11⟩) (c11 : PySem.W.codeIn K cd11 "_read_chunk" = true) (k11 : PySem.W.keepIn K (.ref f11) = true)
    (a12 : PySem.W.nsIn K mainGlobals "_read_form" = some (some (.ref f12)))
    (l12 : K.lookup f12 = some ⟨oc12, od12, .func (PySem.W.fnOf "_read_form" "_read_form" (defArgs s_read_form) (defBody s_read_form) (defScope s_read_form) .none kV12 dc12 pm12 an12 cd12 ct12), sl12⟩) (c12 : PySem.W.codeIn K cd12 "_read_form" = true) (k12 : PySem.W.keepIn K (.ref f12) = true)
    (a13 : PySem.W.nsIn K mainGlobals "_read_depth" = some (some (.ref f13)))
    (l13 : K.lookup f13 = some ⟨oc13, od13, .func (PySem.W.fnOf "_read_depth" "_read_depth" (defArgs s_read_depth) (defBody s_read_depth) (defScope s_read_depth) .none kV13 dc13 pm13 an13 cd13 ct13), sl13⟩) (c13 : PySem.W.codeIn K cd13 "_read_depth" = true) (k13 : PySem.W.keepIn K (.ref f13) = true)
    (a14 : PySem.W.nsIn K mainGlobals "_read_samples" = some (some (.ref f14)))
    (l14 : K.lookup f14 = some ⟨oc14, od14, .func (PySem.W.fnOf "_read_samples" "_read_samples" (defArgs s_read_samples) (defBody s_read_samples) (defScope s_read_samples) .none kV14 dc14 pm14 an14 cd14 ct14), sl14⟩) (c14 : PySem.W.codeIn K cd14 "_read_samples" = true) (k14 : PySem.W.keepIn K (.ref f14) = true)
    (a15 : PySem.W.nsIn K mainGlobals "_read_sample" = some (some (.ref f15)))
    (l15 : K.lookup f15 = some ⟨oc15, od15, .func (PySem.W.fnOf "_read_sample" "_read_sample" (defArgs s_read_sample) (defBody s_read_sample) (defScope s_read_sample) .none kV15 dc15 pm15 an15 cd15 ct15), sl15⟩) (c15 : PySem.W.codeIn K cd15 "_read_sample" = true) (k15 : PySem.W.keepIn K (.ref f15) = true)
    (a16 : PySem.W.nsIn K mainGlobals "_law_draw" = some (some (.ref f16)))
    (l16 : K.lookup f16 = some ⟨oc16, od16, .func (PySem.W.fnOf "_law_draw" "_law_draw" (defArgs s_law_draw) (defBody s_law_draw) (defScope s_law_draw) .none kV16 dc16 pm16 an16 cd16 ct16), sl16⟩) (c16 : PySem.W.codeIn K cd16 "_law_draw" = true) (k16 : PySem.W.keepIn K (.ref f16) = true)
    (a17 : PySem.W.nsIn K mainGlobals "_law_is_integer" = some (some (.ref f17)))
    (l17 : K.lookup f17 = some ⟨oc17, od17, .func (PySem.W.fnOf "_law_is_integer" "_law_is_integer" (defArgs s_law_is_integer) (defBody s_law_is_integer) (defScope s_law_is_integer) .none kV17 dc17 pm17 an17 cd17 ct17), sl17⟩) (c17 : PySem.W.codeIn K cd17 "_law_is_integer" = true) (k17 : PySem.W.keepIn K (.ref f17) = true)
    (a18 : PySem.W.nsIn K mainGlobals "_law_same" = some (some (.ref f18)))
    (l18 : K.lookup f18 = some ⟨oc18, od18, .func (PySem.W.fnOf "_law_same" "_law_same" (defArgs s_law_same) (defBody s_law_same) (defScope s_law_same) .none kV18 dc18 pm18 an18 cd18 ct18), sl18⟩) (c18 : PySem.W.codeIn K cd18 "_law_same" = true) (k18 : PySem.W.keepIn K (.ref f18) = true)
    (a19 : PySem.W.nsIn K mainGlobals "_law_cell" = some (some (.ref f19)))
    (l19 : K.lookup f19 = some ⟨oc19, od19, .func (PySem.W.fnOf "_law_cell" "_law_cell" (defArgs s_law_cell) (defBody s_law_cell) (defScope s_law_cell) .none kV19 dc19 pm19 an19 cd19 ct19), sl19⟩) (c19 : PySem.W.codeIn K cd19 "_law_cell" = true) (k19 : PySem.W.keepIn K (.ref f19) = true)
    (a20 : PySem.W.nsIn K mainGlobals "_law_little" = some (some (.ref f20)))
    (l20 : K.lookup f20 = some ⟨oc20, od20, .func (PySem.W.fnOf "_law_little" "_law_little" (defArgs s_law_little) (defBody s_law_little) (defScope s_law_little) .none kV20 dc20 pm20 an20 cd20 ct20), sl20⟩) (c20 : PySem.W.codeIn K cd20 "_law_little" = true) (k20 : PySem.W.keepIn K (.ref f20) = true)
    (a21 : PySem.W.nsIn K mainGlobals "_law_channel" = some (some (.ref f21)))
    (l21 : K.lookup f21 = some ⟨oc21, od21, .func (PySem.W.fnOf "_law_channel" "_law_channel" (defArgs s_law_channel) (defBody s_law_channel) (defScope s_law_channel) .none kV21 dc21 pm21 an21 cd21 ct21), sl21⟩) (c21 : PySem.W.codeIn K cd21 "_law_channel" = true) (k21 : PySem.W.keepIn K (.ref f21) = true)
    (a22 : PySem.W.nsIn K mainGlobals "_law_chunk" = some (some (.ref f22)))
    (l22 : K.lookup f22 = some ⟨oc22, od22, .func (PySem.W.fnOf "_law_chunk" "_law_chunk" (defArgs s_law_chunk) (defBody s_law_chunk) (defScope s_law_chunk) .none kV22 dc22 pm22 an22 cd22 ct22), sl22⟩) (c22 : PySem.W.codeIn K cd22 "_law_chunk" = true) (k22 : PySem.W.keepIn K (.ref f22) = true)
    (a23 : PySem.W.nsIn K mainGlobals "_law_format" = some (some (.ref f23)))
    (l23 : K.lookup f23 = some ⟨oc23, od23, .func (PySem.W.fnOf "_law_format" "_law_format" (defArgs s_law_format) (defBody s_law_format) (defScope s_law_format) .none kV23 dc23 pm23 an23 cd23 ct23), sl23⟩) (c23 : PySem.W.codeIn K cd23 "_law_format" = true) (k23 : PySem.W.keepIn K (.ref f23) = true)
    (a24 : PySem.W.nsIn K mainGlobals "_law_samples" = some (some (.ref f24)))
    (l24 : K.lookup f24 = some ⟨oc24, od24, .func (PySem.W.fnOf "_law_samples" "_law_samples" (defArgs s_law_samples) (defBody s_law_samples) (defScope s_law_samples) .none kV24 dc24 pm24 an24 cd24 ct24), sl24⟩) (c24 : PySem.W.codeIn K cd24 "_law_samples" = true) (k24 : PySem.W.keepIn K (.ref f24) = true)
    (a25 : PySem.W.nsIn K mainGlobals "_law_file" = some (some (.ref f25)))
    (l25 : K.lookup f25 = some ⟨oc25, od25, .func (PySem.W.fnOf "_law_file" "_law_file" (defArgs s_law_file) (defBody s_law_file) (defScope s_law_file) .none kV25 dc25 pm25 an25 cd25 ct25), sl25⟩) (c25 : PySem.W.codeIn K cd25 "_law_file" = true) (k25 : PySem.W.keepIn K (.ref f25) = true)
    (a26 : PySem.W.nsIn K mainGlobals "_law_equal" = some (some (.ref f26)))
    (l26 : K.lookup f26 = some ⟨oc26, od26, .func (PySem.W.fnOf "_law_equal" "_law_equal" (defArgs s_law_equal) (defBody s_law_equal) (defScope s_law_equal) .none kV26 dc26 pm26 an26 cd26 ct26), sl26⟩) (c26 : PySem.W.codeIn K cd26 "_law_equal" = true) (k26 : PySem.W.keepIn K (.ref f26) = true)
    (a27 : PySem.W.nsIn K mainGlobals "law" = some (some (.ref f27)))
    (l27 : K.lookup f27 = some ⟨oc27, od27, .func (PySem.W.fnOf "law" "law" (defArgs s_law) (defBody s_law) (defScope s_law) .none kV27 dc27 pm27 an27 cd27 ct27), sl27⟩) (c27 : PySem.W.codeIn K cd27 "law" = true) (k27 : PySem.W.keepIn K (.ref f27) = true)
    (aC_Audio : PySem.W.nsIn K mainGlobals "Audio" = some (some (.ref C_Audio)))
    (pg_Audio : PySem.W.plainGet K C_Audio Str.empty = true) (hd_Audio : PySem.W.hasDictIn K C_Audio = true) (po_Audio : PySem.W.plainOver K C_Audio = true) (sa_Audio : PySem.W.findIn K (.ref C_Audio) "__setattr__" = some (some (.builtin "object.__setattr__"))) (mk_Audio : PySem.W.makesIn K C_Audio = true) (kc_Audio : PySem.W.keepIn K (.ref C_Audio) = true)
    (n_Audio_rate : PySem.W.findIn K (.ref C_Audio) "rate" = some none)
    (n_Audio_depth : PySem.W.findIn K (.ref C_Audio) "depth" = some none)
    (n_Audio_channels : PySem.W.findIn K (.ref C_Audio) "channels" = some none)
    (ty_Audioha : PySem.W.findIn K (.ref C_Audio) "__class__" = some (some (.builtin "object.__class__"))) (ty_Audiohn : PySem.W.specialIn K (.builtin "object.__class__") "__get__" = some (some (.builtin "getset_descriptor.__get__"))) (ty_Audioht : PySem.W.takesIn K (.builtin "object.__class__") = some true) (ty_Audiohm : PySem.W.mroIn K C_Audio (.type "object") = some true)
    (yt_Audio : PySem.W.typeIn K (.ref C_Audio) = some (.type "type"))
    (yz_Audio : PySem.W.subIn K (.ref C_Audio) (.ref C_Audio) = some true)
    (z_list : PySem.W.nsIn K mainGlobals "list" = some none)
    (z_isinstance : PySem.W.nsIn K mainGlobals "isinstance" = some none)
    (z_range : PySem.W.nsIn K mainGlobals "range" = some none)
    (z_reversed : PySem.W.nsIn K mainGlobals "reversed" = some none)
    (z_len : PySem.W.nsIn K mainGlobals "len" = some none)
    (z_zip : PySem.W.nsIn K mainGlobals "zip" = some none)
    (z_int : PySem.W.nsIn K mainGlobals "int" = some none)
    (z_bool : PySem.W.nsIn K mainGlobals "bool" = some none)
    (q_RIFF : PySem.W.nsIn K mainGlobals "_RIFF" = some (some (.ref A_RIFF))) (l_RIFF : K.lookup A_RIFF = some ⟨.type "tuple", none, .seq (List.toArray [wRIFF_0, wRIFF_1, wRIFF_2, wRIFF_3]) nxRIFF, sxRIFF⟩)
    (r_RIFF_0 : RelV (.int 82) wRIFF_0)
    (r_RIFF_1 : RelV (.int 73) wRIFF_1)
    (r_RIFF_2 : RelV (.int 70) wRIFF_2)
    (r_RIFF_3 : RelV (.int 70) wRIFF_3)
    (q_WAVE : PySem.W.nsIn K mainGlobals "_WAVE" = some (some (.ref A_WAVE))) (l_WAVE : K.lookup A_WAVE = some ⟨.type "tuple", none, .seq (List.toArray [wWAVE_0, wWAVE_1, wWAVE_2, wWAVE_3]) nxWAVE, sxWAVE⟩)
    (r_WAVE_0 : RelV (.int 87) wWAVE_0)
    (r_WAVE_1 : RelV (.int 65) wWAVE_1)
    (r_WAVE_2 : RelV (.int 86) wWAVE_2)
    (r_WAVE_3 : RelV (.int 69) wWAVE_3)
    (q_FORM : PySem.W.nsIn K mainGlobals "_FORM" = some (some (.ref A_FORM))) (l_FORM : K.lookup A_FORM = some ⟨.type "tuple", none, .seq (List.toArray [wFORM_0, wFORM_1, wFORM_2, wFORM_3]) nxFORM, sxFORM⟩)
    (r_FORM_0 : RelV (.int 102) wFORM_0)
    (r_FORM_1 : RelV (.int 109) wFORM_1)
    (r_FORM_2 : RelV (.int 116) wFORM_2)
    (r_FORM_3 : RelV (.int 32) wFORM_3)
    (q_DATA : PySem.W.nsIn K mainGlobals "_DATA" = some (some (.ref A_DATA))) (l_DATA : K.lookup A_DATA = some ⟨.type "tuple", none, .seq (List.toArray [wDATA_0, wDATA_1, wDATA_2, wDATA_3]) nxDATA, sxDATA⟩)
    (r_DATA_0 : RelV (.int 100) wDATA_0)
    (r_DATA_1 : RelV (.int 97) wDATA_1)
    (r_DATA_2 : RelV (.int 116) wDATA_2)
    (r_DATA_3 : RelV (.int 97) wDATA_3)
    (q_FILE_HEAD : PySem.W.nsIn K mainGlobals "_FILE_HEAD" = some (some u_FILE_HEAD)) (r_FILE_HEAD : RelV (.int (12)) u_FILE_HEAD)
    (q_CHUNK_HEAD : PySem.W.nsIn K mainGlobals "_CHUNK_HEAD" = some (some u_CHUNK_HEAD)) (r_CHUNK_HEAD : RelV (.int (8)) u_CHUNK_HEAD)
    (q_PLAIN : PySem.W.nsIn K mainGlobals "_PLAIN" = some (some u_PLAIN)) (r_PLAIN : RelV (.int (1)) u_PLAIN)
    (q_EXTENDED : PySem.W.nsIn K mainGlobals "_EXTENDED" = some (some u_EXTENDED)) (r_EXTENDED : RelV (.int (65534)) u_EXTENDED)
    (q_PLAIN_LENGTH : PySem.W.nsIn K mainGlobals "_PLAIN_LENGTH" = some (some u_PLAIN_LENGTH)) (r_PLAIN_LENGTH : RelV (.int (16)) u_PLAIN_LENGTH)
    (q_EXTENDED_LENGTH : PySem.W.nsIn K mainGlobals "_EXTENDED_LENGTH" = some (some u_EXTENDED_LENGTH)) (r_EXTENDED_LENGTH : RelV (.int (40)) u_EXTENDED_LENGTH)
    (q_CHANNELS : PySem.W.nsIn K mainGlobals "_CHANNELS" = some (some u_CHANNELS)) (r_CHANNELS : RelV (.int (2)) u_CHANNELS)
    (q_RATE : PySem.W.nsIn K mainGlobals "_RATE" = some (some u_RATE)) (r_RATE : RelV (.int (4)) u_RATE)
    (q_ROW_BYTES : PySem.W.nsIn K mainGlobals "_ROW_BYTES" = some (some u_ROW_BYTES)) (r_ROW_BYTES : RelV (.int (12)) u_ROW_BYTES)
    (q_SAMPLE_BITS : PySem.W.nsIn K mainGlobals "_SAMPLE_BITS" = some (some u_SAMPLE_BITS)) (r_SAMPLE_BITS : RelV (.int (14)) u_SAMPLE_BITS)
    (q_DEPTH : PySem.W.nsIn K mainGlobals "_DEPTH" = some (some u_DEPTH)) (r_DEPTH : RelV (.int (18)) u_DEPTH)
    (q_SIGN : PySem.W.nsIn K mainGlobals "_SIGN" = some (some u_SIGN)) (r_SIGN : RelV (.int (24)) u_SIGN)
    (q_SIGN_BYTES : PySem.W.nsIn K mainGlobals "_SIGN_BYTES" = some (some (.ref A_SIGN_BYTES))) (l_SIGN_BYTES : K.lookup A_SIGN_BYTES = some ⟨.type "tuple", none, .seq (List.toArray [wSIGN_BYTES_0, wSIGN_BYTES_1, wSIGN_BYTES_2, wSIGN_BYTES_3, wSIGN_BYTES_4, wSIGN_BYTES_5, wSIGN_BYTES_6, wSIGN_BYTES_7, wSIGN_BYTES_8, wSIGN_BYTES_9, wSIGN_BYTES_10, wSIGN_BYTES_11, wSIGN_BYTES_12, wSIGN_BYTES_13, wSIGN_BYTES_14, wSIGN_BYTES_15]) nxSIGN_BYTES, sxSIGN_BYTES⟩)
    (r_SIGN_BYTES_0 : RelV (.int 1) wSIGN_BYTES_0)
    (r_SIGN_BYTES_1 : RelV (.int 0) wSIGN_BYTES_1)
    (r_SIGN_BYTES_2 : RelV (.int 0) wSIGN_BYTES_2)
    (r_SIGN_BYTES_3 : RelV (.int 0) wSIGN_BYTES_3)
    (r_SIGN_BYTES_4 : RelV (.int 0) wSIGN_BYTES_4)
    (r_SIGN_BYTES_5 : RelV (.int 0) wSIGN_BYTES_5)
    (r_SIGN_BYTES_6 : RelV (.int 16) wSIGN_BYTES_6)
    (r_SIGN_BYTES_7 : RelV (.int 0) wSIGN_BYTES_7)
    (r_SIGN_BYTES_8 : RelV (.int 128) wSIGN_BYTES_8)
    (r_SIGN_BYTES_9 : RelV (.int 0) wSIGN_BYTES_9)
    (r_SIGN_BYTES_10 : RelV (.int 0) wSIGN_BYTES_10)
    (r_SIGN_BYTES_11 : RelV (.int 170) wSIGN_BYTES_11)
    (r_SIGN_BYTES_12 : RelV (.int 0) wSIGN_BYTES_12)
    (r_SIGN_BYTES_13 : RelV (.int 56) wSIGN_BYTES_13)
    (r_SIGN_BYTES_14 : RelV (.int 155) wSIGN_BYTES_14)
    (r_SIGN_BYTES_15 : RelV (.int 113) wSIGN_BYTES_15)
    (q_MOST_RATE : PySem.W.nsIn K mainGlobals "_MOST_RATE" = some (some u_MOST_RATE)) (r_MOST_RATE : RelV (.int (1048575)) u_MOST_RATE)
    (q_SAMPLE_SIZES : PySem.W.nsIn K mainGlobals "_SAMPLE_SIZES" = some (some (.ref A_SAMPLE_SIZES))) (l_SAMPLE_SIZES : K.lookup A_SAMPLE_SIZES = some ⟨.type "tuple", none, .seq (List.toArray [wSAMPLE_SIZES_0, wSAMPLE_SIZES_1, wSAMPLE_SIZES_2, wSAMPLE_SIZES_3]) nxSAMPLE_SIZES, sxSAMPLE_SIZES⟩)
    (r_SAMPLE_SIZES_0 : RelV (.int 8) wSAMPLE_SIZES_0)
    (r_SAMPLE_SIZES_1 : RelV (.int 16) wSAMPLE_SIZES_1)
    (r_SAMPLE_SIZES_2 : RelV (.int 24) wSAMPLE_SIZES_2)
    (r_SAMPLE_SIZES_3 : RelV (.int 32) wSAMPLE_SIZES_3)
    : ∃ fd : FuncData, (∀ (s : Shared) (v : Value), BindsTo s fd ⟨[v], []⟩ [("script", v)]) ∧ ∀ base : Heap, K.In base → base.Ns mainGlobals mg → FnOk l.prog w K mg base CX0 5 fa fd ["script"] (sp_law K) := by
  have e := hfa.symm.trans (PySem.W.mg_of X G a27)
  cases e
  have F1 := fun_mk (st := s_Audio_init) l1 c1 k1
  have b1 := F1.binds (ps := ["self", "rate", "depth", "channels"]) fun _ _ _ _ _ _ us hl => (by obtain ⟨_, _, _, _, rfl⟩ := ml4 hl; exact rfl)
  have F2 := fun_mk (st := s_Audio_eq) l2 c2 k2
  have b2 := F2.binds (ps := ["self", "other"]) fun _ _ _ _ _ _ us hl => (by obtain ⟨_, _, rfl⟩ := ml2 hl; exact rfl)
  have F3 := fun_mk (st := s_little_bytes) l3 c3 k3
  have b3 := F3.binds (ps := ["number", "count"]) fun _ _ _ _ _ _ us hl => (by obtain ⟨_, _, rfl⟩ := ml2 hl; exact rfl)
  have F4 := fun_mk (st := s_little_number) l4 c4 k4
  have b4 := F4.binds (ps := ["data", "place", "count"]) fun _ _ _ _ _ _ us hl => (by obtain ⟨_, _, _, rfl⟩ := ml3 hl; exact rfl)
  have F5 := fun_mk (st := s_write_wave) l5 c5 k5
  have b5 := F5.binds (ps := ["audio"]) fun _ _ _ _ _ _ us hl => (by obtain ⟨_, rfl⟩ := ml1 hl; exact rfl)
  have F6 := fun_mk (st := s_read_wave) l6 c6 k6
  have b6 := F6.binds (ps := ["data"]) fun _ _ _ _ _ _ us hl => (by obtain ⟨_, rfl⟩ := ml1 hl; exact rfl)
  have F7 := fun_mk (st := s_sample_bytes) l7 c7 k7
  have b7 := F7.binds (ps := ["depth"]) fun _ _ _ _ _ _ us hl => (by obtain ⟨_, rfl⟩ := ml1 hl; exact rfl)
  have F8 := fun_mk (st := s_chunk) l8 c8 k8
  have b8 := F8.binds (ps := ["name", "content"]) fun _ _ _ _ _ _ us hl => (by obtain ⟨_, _, rfl⟩ := ml2 hl; exact rfl)
  have F9 := fun_mk (st := s_form_content) l9 c9 k9
  have b9 := F9.binds (ps := ["audio"]) fun _ _ _ _ _ _ us hl => (by obtain ⟨_, rfl⟩ := ml1 hl; exact rfl)
  have F10 := fun_mk (st := s_data_content) l10 c10 k10
  have b10 := F10.binds (ps := ["audio"]) fun _ _ _ _ _ _ us hl => (by obtain ⟨_, rfl⟩ := ml1 hl; exact rfl)
  have F11 := fun_mk (st := s_read_chunk) l11 c11 k11
  have b11 := F11.binds (ps := ["data", "place"]) fun _ _ _ _ _ _ us hl => (by obtain ⟨_, _, rfl⟩ := ml2 hl; exact rfl)
  have F12 := fun_mk (st := s_read_form) l12 c12 k12
  have b12 := F12.binds (ps := ["data", "start", "stop"]) fun _ _ _ _ _ _ us hl => (by obtain ⟨_, _, _, rfl⟩ := ml3 hl; exact rfl)
  have F13 := fun_mk (st := s_read_depth) l13 c13 k13
  have b13 := F13.binds (ps := ["data", "start", "bits"]) fun _ _ _ _ _ _ us hl => (by obtain ⟨_, _, _, rfl⟩ := ml3 hl; exact rfl)
  have F14 := fun_mk (st := s_read_samples) l14 c14 k14
  have b14 := F14.binds (ps := ["data", "start", "stop", "form"]) fun _ _ _ _ _ _ us hl => (by obtain ⟨_, _, _, _, rfl⟩ := ml4 hl; exact rfl)
  have F15 := fun_mk (st := s_read_sample) l15 c15 k15
  have b15 := F15.binds (ps := ["data", "place", "size", "depth"]) fun _ _ _ _ _ _ us hl => (by obtain ⟨_, _, _, _, rfl⟩ := ml4 hl; exact rfl)
  have F16 := fun_mk (st := s_law_draw) l16 c16 k16
  have b16 := F16.binds (ps := ["cell", "many", "bound"]) fun _ _ _ _ _ _ us hl => (by obtain ⟨_, _, _, rfl⟩ := ml3 hl; exact rfl)
  have F17 := fun_mk (st := s_law_is_integer) l17 c17 k17
  have b17 := F17.binds (ps := ["actual"]) fun _ _ _ _ _ _ us hl => (by obtain ⟨_, rfl⟩ := ml1 hl; exact rfl)
  have F18 := fun_mk (st := s_law_same) l18 c18 k18
  have b18 := F18.binds (ps := ["actual", "expected"]) fun _ _ _ _ _ _ us hl => (by obtain ⟨_, _, rfl⟩ := ml2 hl; exact rfl)
  have F19 := fun_mk (st := s_law_cell) l19 c19 k19
  have b19 := F19.binds (ps := ["script", "k"]) fun _ _ _ _ _ _ us hl => (by obtain ⟨_, _, rfl⟩ := ml2 hl; exact rfl)
  have F20 := fun_mk (st := s_law_little) l20 c20 k20
  have b20 := F20.binds (ps := ["value", "many"]) fun _ _ _ _ _ _ us hl => (by obtain ⟨_, _, rfl⟩ := ml2 hl; exact rfl)
  have F21 := fun_mk (st := s_law_channel) l21 c21 k21
  have b21 := F21.binds (ps := ["cell", "many", "depth"]) fun _ _ _ _ _ _ us hl => (by obtain ⟨_, _, _, rfl⟩ := ml3 hl; exact rfl)
  have F22 := fun_mk (st := s_law_chunk) l22 c22 k22
  have b22 := F22.binds (ps := ["name", "content"]) fun _ _ _ _ _ _ us hl => (by obtain ⟨_, _, rfl⟩ := ml2 hl; exact rfl)
  have F23 := fun_mk (st := s_law_format) l23 c23 k23
  have b23 := F23.binds (ps := ["rate", "depth", "count"]) fun _ _ _ _ _ _ us hl => (by obtain ⟨_, _, _, rfl⟩ := ml3 hl; exact rfl)
  have F24 := fun_mk (st := s_law_samples) l24 c24 k24
  have b24 := F24.binds (ps := ["channels", "size", "depth"]) fun _ _ _ _ _ _ us hl => (by obtain ⟨_, _, _, rfl⟩ := ml3 hl; exact rfl)
  have F25 := fun_mk (st := s_law_file) l25 c25 k25
  have b25 := F25.binds (ps := ["chunks"]) fun _ _ _ _ _ _ us hl => (by obtain ⟨_, rfl⟩ := ml1 hl; exact rfl)
  have F26 := fun_mk (st := s_law_equal) l26 c26 k26
  have b26 := F26.binds (ps := ["audio", "rate", "depth", "channels"]) fun _ _ _ _ _ _ us hl => (by obtain ⟨_, _, _, _, rfl⟩ := ml4 hl; exact rfl)
  have F27 := fun_mk (st := s_law) l27 c27 k27
  have b27 := F27.binds (ps := ["script"]) fun _ _ _ _ _ _ us hl => (by obtain ⟨_, rfl⟩ := ml1 hl; exact rfl)
  let T : TX K mg := ⟨f1, _, F1, b1, f2, _, F2, b2, f3, _, F3, b3, (PySem.W.mg_of X G a3), f4, _, F4, b4, (PySem.W.mg_of X G a4), f5, _, F5, b5, (PySem.W.mg_of X G a5), f6, _, F6, b6, (PySem.W.mg_of X G a6), f7, _, F7, b7, (PySem.W.mg_of X G a7), f8, _, F8, b8, (PySem.W.mg_of X G a8), f9, _, F9, b9, (PySem.W.mg_of X G a9), f10, _, F10, b10, (PySem.W.mg_of X G a10), f11, _, F11, b11, (PySem.W.mg_of X G a11), f12, _, F12, b12, (PySem.W.mg_of X G a12), f13, _, F13, b13, (PySem.W.mg_of X G a13), f14, _, F14, b14, (PySem.W.mg_of X G a14), f15, _, F15, b15, (PySem.W.mg_of X G a15), f16, _, F16, b16, (PySem.W.mg_of X G a16), f17, _, F17, b17, (PySem.W.mg_of X G a17), f18, _, F18, b18, (PySem.W.mg_of X G a18), f19, _, F19, b19, (PySem.W.mg_of X G a19), f20, _, F20, b20, (PySem.W.mg_of X G a20), f21, _, F21, b21, (PySem.W.mg_of X G a21), f22, _, F22, b22, (PySem.W.mg_of X G a22), f23, _, F23, b23, (PySem.W.mg_of X G a23), f24, _, F24, b24, (PySem.W.mg_of X G a24), f25, _, F25, b25, (PySem.W.mg_of X G a25), f26, _, F26, b26, (PySem.W.mg_of X G a26), fa, _, F27, b27, (PySem.W.mg_of X G a27), C_Audio, ⟨pg_Audio, hd_Audio, po_Audio, sa_Audio⟩, (PySem.W.mg_of X G aC_Audio), ⟨mk_Audio, a1, i1, kc_Audio⟩, ⟨a2, i2, k2⟩, n_Audio_rate, n_Audio_depth, n_Audio_channels, ⟨ty_Audioha, ty_Audiohn, ty_Audioht, ty_Audiohm⟩, kit_self.1, kit_self.2, (PySem.W.mg_none_of X G z_list), (PySem.W.mg_none_of X G z_isinstance), (PySem.W.mg_none_of X G z_range), (PySem.W.mg_none_of X G z_reversed), (PySem.W.mg_none_of X G z_len), (PySem.W.mg_none_of X G z_zip), (PySem.W.mg_none_of X G z_int), (PySem.W.mg_none_of X G z_bool), A_RIFF, (PySem.W.mg_of X G q_RIFF), (fun H => .inr ⟨_, _, _, l_RIFF, rfl, rfl, Nat.le_of_ble_eq_true rfl, (.cons r_RIFF_0 (.cons r_RIFF_1 (.cons r_RIFF_2 (.cons r_RIFF_3 .nil))))⟩), ⟨_, l_RIFF, rfl, rfl⟩, A_WAVE, (PySem.W.mg_of X G q_WAVE), (fun H => .inr ⟨_, _, _, l_WAVE, rfl, rfl, Nat.le_of_ble_eq_true rfl, (.cons r_WAVE_0 (.cons r_WAVE_1 (.cons r_WAVE_2 (.cons r_WAVE_3 .nil))))⟩), ⟨_, l_WAVE, rfl, rfl⟩, A_FORM, (PySem.W.mg_of X G q_FORM), (fun H => .inr ⟨_, _, _, l_FORM, rfl, rfl, Nat.le_of_ble_eq_true rfl, (.cons r_FORM_0 (.cons r_FORM_1 (.cons r_FORM_2 (.cons r_FORM_3 .nil))))⟩), ⟨_, l_FORM, rfl, rfl⟩, A_DATA, (PySem.W.mg_of X G q_DATA), (fun H => .inr ⟨_, _, _, l_DATA, rfl, rfl, Nat.le_of_ble_eq_true rfl, (.cons r_DATA_0 (.cons r_DATA_1 (.cons r_DATA_2 (.cons r_DATA_3 .nil))))⟩), ⟨_, l_DATA, rfl, rfl⟩, u_FILE_HEAD, (PySem.W.mg_of X G q_FILE_HEAD), r_FILE_HEAD, u_CHUNK_HEAD, (PySem.W.mg_of X G q_CHUNK_HEAD), r_CHUNK_HEAD, u_PLAIN, (PySem.W.mg_of X G q_PLAIN), r_PLAIN, u_EXTENDED, (PySem.W.mg_of X G q_EXTENDED), r_EXTENDED, u_PLAIN_LENGTH, (PySem.W.mg_of X G q_PLAIN_LENGTH), r_PLAIN_LENGTH, u_EXTENDED_LENGTH, (PySem.W.mg_of X G q_EXTENDED_LENGTH), r_EXTENDED_LENGTH, u_CHANNELS, (PySem.W.mg_of X G q_CHANNELS), r_CHANNELS, u_RATE, (PySem.W.mg_of X G q_RATE), r_RATE, u_ROW_BYTES, (PySem.W.mg_of X G q_ROW_BYTES), r_ROW_BYTES, u_SAMPLE_BITS, (PySem.W.mg_of X G q_SAMPLE_BITS), r_SAMPLE_BITS, u_DEPTH, (PySem.W.mg_of X G q_DEPTH), r_DEPTH, u_SIGN, (PySem.W.mg_of X G q_SIGN), r_SIGN, A_SIGN_BYTES, (PySem.W.mg_of X G q_SIGN_BYTES), (fun H => .inr ⟨_, _, _, l_SIGN_BYTES, rfl, rfl, Nat.le_of_ble_eq_true rfl, (.cons r_SIGN_BYTES_0 (.cons r_SIGN_BYTES_1 (.cons r_SIGN_BYTES_2 (.cons r_SIGN_BYTES_3 (.cons r_SIGN_BYTES_4 (.cons r_SIGN_BYTES_5 (.cons r_SIGN_BYTES_6 (.cons r_SIGN_BYTES_7 (.cons r_SIGN_BYTES_8 (.cons r_SIGN_BYTES_9 (.cons r_SIGN_BYTES_10 (.cons r_SIGN_BYTES_11 (.cons r_SIGN_BYTES_12 (.cons r_SIGN_BYTES_13 (.cons r_SIGN_BYTES_14 (.cons r_SIGN_BYTES_15 .nil))))))))))))))))⟩), ⟨_, l_SIGN_BYTES, rfl, rfl⟩, u_MOST_RATE, (PySem.W.mg_of X G q_MOST_RATE), r_MOST_RATE, A_SAMPLE_SIZES, (PySem.W.mg_of X G q_SAMPLE_SIZES), (fun H => .inr ⟨_, _, _, l_SAMPLE_SIZES, rfl, rfl, Nat.le_of_ble_eq_true rfl, (.cons r_SAMPLE_SIZES_0 (.cons r_SAMPLE_SIZES_1 (.cons r_SAMPLE_SIZES_2 (.cons r_SAMPLE_SIZES_3 .nil))))⟩), ⟨_, l_SAMPLE_SIZES, rfl, rfl⟩⟩
  exact ⟨_, fun s v => .of_eq rfl, fun base _ _ => ok_law T⟩
end K14
open PySem PySem.W PyProof.Rows
set_option maxRecDepth 100000 in
set_option maxHeartbeats 0 in
theorem PySem.Challenge.cw_monochord_k14_wave_files_holds : PySem.Challenge.rw_monochord_k14_wave_files.Holds := by
  w_on; o_law; k_head; (case hw => w_witness2)
  k_fill
  refine L2.walk_of (l := PySem.Challenge.rw_monochord_k14_wave_files) (n := 63) (k := 5) (x := "script") (CX := fun _ => L2.CX0) (sp := fun w => K14.sp_law _) rfl (by decide) rfl ⟨rfl, by decide, by decide⟩ (fun w h Y => PySem.W.kIn_of Y) ?F (fun _ _ a ns hl _ hS => ⟨a, ns, rfl, hS, hl, fun _ => rfl⟩) (fun _ _ _ _ _ h => h)
  case F =>
    intro w mg fa h KX G hmg
    refine' K14.all_mk KX G hmg ?a1 ?i1 ?l1 ?c1 ?k1 ?a2 ?i2 ?l2 ?c2 ?k2 ?a3 ?l3 ?c3 ?k3 ?a4 ?l4 ?c4 ?k4 ?a5 ?l5 ?c5 ?k5 ?a6 ?l6 ?c6 ?k6 ?a7 ?l7 ?c7 ?k7 ?a8 ?l8 ?c8 ?k8 ?a9 ?l9 ?c9 ?k9 ?a10 ?l10 ?c10 ?k10 ?a11 ?l11 ?c11 ?k11 ?a12 ?l12 ?c12 ?k12 ?a13 ?l13 ?c13 ?k13 ?a14 ?l14 ?c14 ?k14 ?a15 ?l15 ?c15 ?k15 ?a16 ?l16 ?c16 ?k16 ?a17 ?l17 ?c17 ?k17 ?a18 ?l18 ?c18 ?k18 ?a19 ?l19 ?c19 ?k19 ?a20 ?l20 ?c20 ?k20 ?a21 ?l21 ?c21 ?k21 ?a22 ?l22 ?c22 ?k22 ?a23 ?l23 ?c23 ?k23 ?a24 ?l24 ?c24 ?k24 ?a25 ?l25 ?c25 ?k25 ?a26 ?l26 ?c26 ?k26 ?a27 ?l27 ?c27 ?k27 ?aC_Audio ?pg_Audio ?hd_Audio ?po_Audio ?sa_Audio ?mk_Audio ?kc_Audio ?n_Audio_rate ?n_Audio_depth ?n_Audio_channels ?ty_Audioha ?ty_Audiohn ?ty_Audioht ?ty_Audiohm ?yt_Audio ?yz_Audio ?z_list ?z_isinstance ?z_range ?z_reversed ?z_len ?z_zip ?z_int ?z_bool ?q_RIFF ?l_RIFF ?r_RIFF_0 ?r_RIFF_1 ?r_RIFF_2 ?r_RIFF_3 ?q_WAVE ?l_WAVE ?r_WAVE_0 ?r_WAVE_1 ?r_WAVE_2 ?r_WAVE_3 ?q_FORM ?l_FORM ?r_FORM_0 ?r_FORM_1 ?r_FORM_2 ?r_FORM_3 ?q_DATA ?l_DATA ?r_DATA_0 ?r_DATA_1 ?r_DATA_2 ?r_DATA_3 ?q_FILE_HEAD ?r_FILE_HEAD ?q_CHUNK_HEAD ?r_CHUNK_HEAD ?q_PLAIN ?r_PLAIN ?q_EXTENDED ?r_EXTENDED ?q_PLAIN_LENGTH ?r_PLAIN_LENGTH ?q_EXTENDED_LENGTH ?r_EXTENDED_LENGTH ?q_CHANNELS ?r_CHANNELS ?q_RATE ?r_RATE ?q_ROW_BYTES ?r_ROW_BYTES ?q_SAMPLE_BITS ?r_SAMPLE_BITS ?q_DEPTH ?r_DEPTH ?q_SIGN ?r_SIGN ?q_SIGN_BYTES ?l_SIGN_BYTES ?r_SIGN_BYTES_0 ?r_SIGN_BYTES_1 ?r_SIGN_BYTES_2 ?r_SIGN_BYTES_3 ?r_SIGN_BYTES_4 ?r_SIGN_BYTES_5 ?r_SIGN_BYTES_6 ?r_SIGN_BYTES_7 ?r_SIGN_BYTES_8 ?r_SIGN_BYTES_9 ?r_SIGN_BYTES_10 ?r_SIGN_BYTES_11 ?r_SIGN_BYTES_12 ?r_SIGN_BYTES_13 ?r_SIGN_BYTES_14 ?r_SIGN_BYTES_15 ?q_MOST_RATE ?r_MOST_RATE ?q_SAMPLE_SIZES ?l_SAMPLE_SIZES ?r_SAMPLE_SIZES_0 ?r_SAMPLE_SIZES_1 ?r_SAMPLE_SIZES_2 ?r_SAMPLE_SIZES_3
    (case aC_Audio => k_is)
    (case a1 => k_is)
    (case i1 => k_is)
    (case l1 => k_is)
    (case c1 => k_is)
    (case k1 => k_is)
    (case a2 => k_is)
    (case i2 => k_is)
    (case l2 => k_is)
    (case c2 => k_is)
    (case k2 => k_is)
    (case a3 => k_is)
    (case l3 => k_is)
    (case c3 => k_is)
    (case k3 => k_is)
    (case a4 => k_is)
    (case l4 => k_is)
    (case c4 => k_is)
    (case k4 => k_is)
    (case a5 => k_is)
    (case l5 => k_is)
    (case c5 => k_is)
    (case k5 => k_is)
    (case a6 => k_is)
    (case l6 => k_is)
    (case c6 => k_is)
    (case k6 => k_is)
    (case a7 => k_is)
    (case l7 => k_is)
    (case c7 => k_is)
    (case k7 => k_is)
    (case a8 => k_is)
    (case l8 => k_is)
    (case c8 => k_is)
    (case k8 => k_is)
    (case a9 => k_is)
    (case l9 => k_is)
    (case c9 => k_is)
    (case k9 => k_is)
    (case a10 => k_is)
    (case l10 => k_is)
    (case c10 => k_is)
    (case k10 => k_is)
    (case a11 => k_is)
    (case l11 => k_is)
    (case c11 => k_is)
    (case k11 => k_is)
    (case a12 => k_is)
    (case l12 => k_is)
    (case c12 => k_is)
    (case k12 => k_is)
    (case a13 => k_is)
    (case l13 => k_is)
    (case c13 => k_is)
    (case k13 => k_is)
    (case a14 => k_is)
    (case l14 => k_is)
    (case c14 => k_is)
    (case k14 => k_is)
    (case a15 => k_is)
    (case l15 => k_is)
    (case c15 => k_is)
    (case k15 => k_is)
    (case a16 => k_is)
    (case l16 => k_is)
    (case c16 => k_is)
    (case k16 => k_is)
    (case a17 => k_is)
    (case l17 => k_is)
    (case c17 => k_is)
    (case k17 => k_is)
    (case a18 => k_is)
    (case l18 => k_is)
    (case c18 => k_is)
    (case k18 => k_is)
    (case a19 => k_is)
    (case l19 => k_is)
    (case c19 => k_is)
    (case k19 => k_is)
    (case a20 => k_is)
    (case l20 => k_is)
    (case c20 => k_is)
    (case k20 => k_is)
    (case a21 => k_is)
    (case l21 => k_is)
    (case c21 => k_is)
    (case k21 => k_is)
    (case a22 => k_is)
    (case l22 => k_is)
    (case c22 => k_is)
    (case k22 => k_is)
    (case a23 => k_is)
    (case l23 => k_is)
    (case c23 => k_is)
    (case k23 => k_is)
    (case a24 => k_is)
    (case l24 => k_is)
    (case c24 => k_is)
    (case k24 => k_is)
    (case a25 => k_is)
    (case l25 => k_is)
    (case c25 => k_is)
    (case k25 => k_is)
    (case a26 => k_is)
    (case l26 => k_is)
    (case c26 => k_is)
    (case k26 => k_is)
    (case a27 => k_is)
    (case l27 => k_is)
    (case c27 => k_is)
    (case k27 => k_is)
    (case pg_Audio => k_is)
    (case hd_Audio => k_is)
    (case po_Audio => k_is)
    (case sa_Audio => k_is)
    (case mk_Audio => k_is)
    (case kc_Audio => k_is)
    (case n_Audio_rate => k_is)
    (case n_Audio_depth => k_is)
    (case n_Audio_channels => k_is)
    (case ty_Audioha => k_is)
    (case ty_Audiohn => k_is)
    (case ty_Audioht => k_is)
    (case ty_Audiohm => k_is)
    (case yt_Audio => k_is)
    (case yz_Audio => k_is)
    (case z_list => k_is)
    (case z_isinstance => k_is)
    (case z_range => k_is)
    (case z_reversed => k_is)
    (case z_len => k_is)
    (case z_zip => k_is)
    (case z_int => k_is)
    (case z_bool => k_is)
    (case q_RIFF => k_is)
    (case l_RIFF => k_is)
    (case r_RIFF_0 => first | rfl | exact ⟨_, rfl⟩)
    (case r_RIFF_1 => first | rfl | exact ⟨_, rfl⟩)
    (case r_RIFF_2 => first | rfl | exact ⟨_, rfl⟩)
    (case r_RIFF_3 => first | rfl | exact ⟨_, rfl⟩)
    (case q_WAVE => k_is)
    (case l_WAVE => k_is)
    (case r_WAVE_0 => first | rfl | exact ⟨_, rfl⟩)
    (case r_WAVE_1 => first | rfl | exact ⟨_, rfl⟩)
    (case r_WAVE_2 => first | rfl | exact ⟨_, rfl⟩)
    (case r_WAVE_3 => first | rfl | exact ⟨_, rfl⟩)
    (case q_FORM => k_is)
    (case l_FORM => k_is)
    (case r_FORM_0 => first | rfl | exact ⟨_, rfl⟩)
    (case r_FORM_1 => first | rfl | exact ⟨_, rfl⟩)
    (case r_FORM_2 => first | rfl | exact ⟨_, rfl⟩)
    (case r_FORM_3 => first | rfl | exact ⟨_, rfl⟩)
    (case q_DATA => k_is)
    (case l_DATA => k_is)
    (case r_DATA_0 => first | rfl | exact ⟨_, rfl⟩)
    (case r_DATA_1 => first | rfl | exact ⟨_, rfl⟩)
    (case r_DATA_2 => first | rfl | exact ⟨_, rfl⟩)
    (case r_DATA_3 => first | rfl | exact ⟨_, rfl⟩)
    (case q_FILE_HEAD => k_is)
    (case r_FILE_HEAD => first | rfl | exact ⟨_, rfl⟩)
    (case q_CHUNK_HEAD => k_is)
    (case r_CHUNK_HEAD => first | rfl | exact ⟨_, rfl⟩)
    (case q_PLAIN => k_is)
    (case r_PLAIN => first | rfl | exact ⟨_, rfl⟩)
    (case q_EXTENDED => k_is)
    (case r_EXTENDED => first | rfl | exact ⟨_, rfl⟩)
    (case q_PLAIN_LENGTH => k_is)
    (case r_PLAIN_LENGTH => first | rfl | exact ⟨_, rfl⟩)
    (case q_EXTENDED_LENGTH => k_is)
    (case r_EXTENDED_LENGTH => first | rfl | exact ⟨_, rfl⟩)
    (case q_CHANNELS => k_is)
    (case r_CHANNELS => first | rfl | exact ⟨_, rfl⟩)
    (case q_RATE => k_is)
    (case r_RATE => first | rfl | exact ⟨_, rfl⟩)
    (case q_ROW_BYTES => k_is)
    (case r_ROW_BYTES => first | rfl | exact ⟨_, rfl⟩)
    (case q_SAMPLE_BITS => k_is)
    (case r_SAMPLE_BITS => first | rfl | exact ⟨_, rfl⟩)
    (case q_DEPTH => k_is)
    (case r_DEPTH => first | rfl | exact ⟨_, rfl⟩)
    (case q_SIGN => k_is)
    (case r_SIGN => first | rfl | exact ⟨_, rfl⟩)
    (case q_SIGN_BYTES => k_is)
    (case l_SIGN_BYTES => k_is)
    (case r_SIGN_BYTES_0 => first | rfl | exact ⟨_, rfl⟩)
    (case r_SIGN_BYTES_1 => first | rfl | exact ⟨_, rfl⟩)
    (case r_SIGN_BYTES_2 => first | rfl | exact ⟨_, rfl⟩)
    (case r_SIGN_BYTES_3 => first | rfl | exact ⟨_, rfl⟩)
    (case r_SIGN_BYTES_4 => first | rfl | exact ⟨_, rfl⟩)
    (case r_SIGN_BYTES_5 => first | rfl | exact ⟨_, rfl⟩)
    (case r_SIGN_BYTES_6 => first | rfl | exact ⟨_, rfl⟩)
    (case r_SIGN_BYTES_7 => first | rfl | exact ⟨_, rfl⟩)
    (case r_SIGN_BYTES_8 => first | rfl | exact ⟨_, rfl⟩)
    (case r_SIGN_BYTES_9 => first | rfl | exact ⟨_, rfl⟩)
    (case r_SIGN_BYTES_10 => first | rfl | exact ⟨_, rfl⟩)
    (case r_SIGN_BYTES_11 => first | rfl | exact ⟨_, rfl⟩)
    (case r_SIGN_BYTES_12 => first | rfl | exact ⟨_, rfl⟩)
    (case r_SIGN_BYTES_13 => first | rfl | exact ⟨_, rfl⟩)
    (case r_SIGN_BYTES_14 => first | rfl | exact ⟨_, rfl⟩)
    (case r_SIGN_BYTES_15 => first | rfl | exact ⟨_, rfl⟩)
    (case q_MOST_RATE => k_is)
    (case r_MOST_RATE => first | rfl | exact ⟨_, rfl⟩)
    (case q_SAMPLE_SIZES => k_is)
    (case l_SAMPLE_SIZES => k_is)
    (case r_SAMPLE_SIZES_0 => first | rfl | exact ⟨_, rfl⟩)
    (case r_SAMPLE_SIZES_1 => first | rfl | exact ⟨_, rfl⟩)
    (case r_SAMPLE_SIZES_2 => first | rfl | exact ⟨_, rfl⟩)
    (case r_SAMPLE_SIZES_3 => first | rfl | exact ⟨_, rfl⟩)
