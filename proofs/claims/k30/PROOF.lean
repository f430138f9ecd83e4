import PyProof.Rows.All
import Wide.All
import OpenK.AllK
import Wide.FinOn
import HandS.ForMost
import HandS.Steps
import HandS.Evl
import HandS.IsInst
import HandS.Defaults
import HandS.MakeKwOnly
import HandS.Wide
import HandS.WideBits
import HandS.Walk
import HandS.Text
import HandS.TryOnly
import HandS.TupAny
import HandS.ForExc
import HandS.OwnEq
import HandS.Strs
import PySem.Challenge.RW_monochord_k30_write_a_header
set_option Elab.async false
set_option linter.all false
set_option maxRecDepth 100000
set_option maxHeartbeats 4000000
namespace K30
open PySem PySem.Spec PyProof.Rows L2 Evl
def topS (i : Nat) : Stmt := PySem.Challenge.pw_monochord_k30_write_a_header.main.body.getD i (.Pass ⟨0, 0, 0, 0⟩)
abbrev s_BitWriter_init : Stmt := inClass (topS 9) 0
theorem sc_BitWriter_init : FnScope ["self"] ["self"] (defScope s_BitWriter_init) := ⟨rfl, rfl, rfl, by decide +kernel, rfl, by decide +kernel, by decide +kernel⟩
abbrev s_BitWriter_write : Stmt := inClass (topS 9) 1
theorem sc_BitWriter_write : FnScope ["self", "width", "value", "held", "held_bits"] ["self", "width", "value"] (defScope s_BitWriter_write) := ⟨rfl, rfl, rfl, by decide +kernel, rfl, by decide +kernel, by decide +kernel⟩
abbrev s_BitWriter_append_bytes : Stmt := inClass (topS 9) 5
theorem sc_BitWriter_append_bytes : FnScope ["self", "data", "byte"] ["self", "data"] (defScope s_BitWriter_append_bytes) := ⟨rfl, rfl, rfl, by decide +kernel, rfl, by decide +kernel, by decide +kernel⟩
abbrev s_BitWriter_byte_list : Stmt := inClass (topS 9) 6
theorem sc_BitWriter_byte_list : FnScope ["self"] ["self"] (defScope s_BitWriter_byte_list) := ⟨rfl, rfl, rfl, by decide +kernel, rfl, by decide +kernel, by decide +kernel⟩
abbrev s_BitReader_init : Stmt := inClass (topS 10) 0
theorem sc_BitReader_init : FnScope ["self", "data", "at"] ["self", "data", "at"] (defScope s_BitReader_init) := ⟨rfl, rfl, rfl, by decide +kernel, rfl, by decide +kernel, by decide +kernel⟩
abbrev s_BitReader_read : Stmt := inClass (topS 10) 1
theorem sc_BitReader_read : FnScope ["self", "width", "data", "start", "stop", "last", "value", "byte"] ["self", "width"] (defScope s_BitReader_read) := ⟨rfl, rfl, rfl, by decide +kernel, rfl, by decide +kernel, by decide +kernel⟩
abbrev s_BitReader_since : Stmt := inClass (topS 10) 5
theorem sc_BitReader_since : FnScope ["self", "place"] ["self", "place"] (defScope s_BitReader_since) := ⟨rfl, rfl, rfl, by decide +kernel, rfl, by decide +kernel, by decide +kernel⟩
abbrev s_BitReader_move_to : Stmt := inClass (topS 10) 8
theorem sc_BitReader_move_to : FnScope ["self", "bit_place"] ["self", "bit_place"] (defScope s_BitReader_move_to) := ⟨rfl, rfl, rfl, by decide +kernel, rfl, by decide +kernel, by decide +kernel⟩
abbrev s_BitReader_byte_place : Stmt := inClass (topS 10) 9
theorem sc_BitReader_byte_place : FnScope ["self"] ["self"] (defScope s_BitReader_byte_place) := ⟨rfl, rfl, rfl, by decide +kernel, rfl, by decide +kernel, by decide +kernel⟩
abbrev s_BitReader_bit_place : Stmt := inClass (topS 10) 10
theorem sc_BitReader_bit_place : FnScope ["self"] ["self"] (defScope s_BitReader_bit_place) := ⟨rfl, rfl, rfl, by decide +kernel, rfl, by decide +kernel, by decide +kernel⟩
abbrev s_crc8 : Stmt := topS 13
theorem sc_crc8 : FnScope ["data", "start"] ["data", "start"] (defScope s_crc8) := ⟨rfl, rfl, rfl, by decide +kernel, rfl, by decide +kernel, by decide +kernel⟩
abbrev s_divided : Stmt := topS 14
theorem sc_divided : FnScope ["data", "start", "width", "steps", "rest", "top", "kept", "byte"] ["data", "start", "width", "steps"] (defScope s_divided) := ⟨rfl, rfl, rfl, by decide +kernel, rfl, by decide +kernel, by decide +kernel⟩
abbrev s_write_number : Stmt := topS 16
theorem sc_write_number : FnScope ["number", "count", "data", "at"] ["number"] (defScope s_write_number) := ⟨rfl, rfl, rfl, by decide +kernel, rfl, by decide +kernel, by decide +kernel⟩
abbrev s_read_number : Stmt := topS 17
theorem sc_read_number : FnScope ["reader", "start"] ["reader"] (defScope s_read_number) := ⟨rfl, rfl, rfl, by decide +kernel, rfl, by decide +kernel, by decide +kernel⟩
abbrev s_number_ahead : Stmt := topS 18
theorem sc_number_ahead : FnScope ["reader", "place", "first", "count", "number", "_"] ["reader"] (defScope s_number_ahead) := ⟨rfl, rfl, rfl, by decide +kernel, rfl, by decide +kernel, by decide +kernel⟩
abbrev s_further_bits : Stmt := topS 19
theorem sc_further_bits : FnScope ["reader", "place", "further"] ["reader"] (defScope s_further_bits) := ⟨rfl, rfl, rfl, by decide +kernel, rfl, by decide +kernel, by decide +kernel⟩
abbrev s_bound : Stmt := topS 20
theorem sc_bound : FnScope ["count"] ["count"] (defScope s_bound) := ⟨rfl, rfl, rfl, by decide +kernel, rfl, by decide +kernel, by decide +kernel⟩
abbrev s_least_first : Stmt := topS 21
theorem sc_least_first : FnScope ["count"] ["count"] (defScope s_least_first) := ⟨rfl, rfl, rfl, by decide +kernel, rfl, by decide +kernel, by decide +kernel⟩
abbrev s_count_told : Stmt := topS 22
theorem sc_count_told : FnScope ["first", "count"] ["first"] (defScope s_count_told) := ⟨rfl, rfl, rfl, by decide +kernel, rfl, by decide +kernel, by decide +kernel⟩
abbrev s_FrameHeader_init : Stmt := inClass (topS 32) 0
theorem sc_FrameHeader_init : FnScope ["self", "variable", "block_size", "rate", "channels", "assignment", "depth", "number"] ["self", "variable", "block_size", "rate", "channels", "assignment", "depth", "number"] (defScope s_FrameHeader_init) := ⟨rfl, rfl, rfl, by decide +kernel, rfl, by decide +kernel, by decide +kernel⟩
abbrev s_FrameHeader_eq : Stmt := inClass (topS 32) 1
theorem sc_FrameHeader_eq : FnScope ["self", "other"] ["self", "other"] (defScope s_FrameHeader_eq) := ⟨rfl, rfl, rfl, by decide +kernel, rfl, by decide +kernel, by decide +kernel⟩
abbrev s_write_header : Stmt := topS 33
theorem sc_write_header : FnScope ["header", "size_code", "rate_code", "writer", "data"] ["header"] (defScope s_write_header) := ⟨rfl, rfl, rfl, by decide +kernel, rfl, by decide +kernel, by decide +kernel⟩
abbrev s_read_header : Stmt := topS 34
theorem sc_read_header : FnScope ["reader", "rate", "depth", "start", "variable", "size_code", "rate_code", "channels", "assignment", "own_depth", "number", "block_size", "own_rate"] ["reader", "rate", "depth"] (defScope s_read_header) := ⟨rfl, rfl, rfl, by decide +kernel, rfl, by decide +kernel, by decide +kernel⟩
abbrev s_header_bytes : Stmt := topS 35
theorem sc_header_bytes : FnScope ["header"] ["header"] (defScope s_header_bytes) := ⟨rfl, rfl, rfl, by decide +kernel, rfl, by decide +kernel, by decide +kernel⟩
abbrev s_size_code : Stmt := topS 36
theorem sc_size_code : FnScope ["block_size"] ["block_size"] (defScope s_size_code) := ⟨rfl, rfl, rfl, by decide +kernel, rfl, by decide +kernel, by decide +kernel⟩
abbrev s_rate_code : Stmt := topS 37
theorem sc_rate_code : FnScope ["rate"] ["rate"] (defScope s_rate_code) := ⟨rfl, rfl, rfl, by decide +kernel, rfl, by decide +kernel, by decide +kernel⟩
abbrev s_channel_code : Stmt := topS 38
theorem sc_channel_code : FnScope ["header"] ["header"] (defScope s_channel_code) := ⟨rfl, rfl, rfl, by decide +kernel, rfl, by decide +kernel, by decide +kernel⟩
abbrev s_depth_code : Stmt := topS 39
theorem sc_depth_code : FnScope ["depth"] ["depth"] (defScope s_depth_code) := ⟨rfl, rfl, rfl, by decide +kernel, rfl, by decide +kernel, by decide +kernel⟩
abbrev s_write_block_size : Stmt := topS 40
theorem sc_write_block_size : FnScope ["writer", "code", "block_size"] ["writer", "code", "block_size"] (defScope s_write_block_size) := ⟨rfl, rfl, rfl, by decide +kernel, rfl, by decide +kernel, by decide +kernel⟩
abbrev s_write_rate : Stmt := topS 41
theorem sc_write_rate : FnScope ["writer", "code", "rate"] ["writer", "code", "rate"] (defScope s_write_rate) := ⟨rfl, rfl, rfl, by decide +kernel, rfl, by decide +kernel, by decide +kernel⟩
abbrev s_read_sync : Stmt := topS 42
theorem sc_read_sync : FnScope ["reader", "place"] ["reader"] (defScope s_read_sync) := ⟨rfl, rfl, rfl, by decide +kernel, rfl, by decide +kernel, by decide +kernel⟩
abbrev s_read_size_code : Stmt := topS 43
theorem sc_read_size_code : FnScope ["reader", "place", "code"] ["reader"] (defScope s_read_size_code) := ⟨rfl, rfl, rfl, by decide +kernel, rfl, by decide +kernel, by decide +kernel⟩
abbrev s_read_rate_code : Stmt := topS 44
theorem sc_read_rate_code : FnScope ["reader", "place", "code"] ["reader"] (defScope s_read_rate_code) := ⟨rfl, rfl, rfl, by decide +kernel, rfl, by decide +kernel, by decide +kernel⟩
abbrev s_read_channels : Stmt := topS 45
theorem sc_read_channels : FnScope ["reader", "place", "code"] ["reader"] (defScope s_read_channels) := ⟨rfl, rfl, rfl, by decide +kernel, rfl, by decide +kernel, by decide +kernel⟩
abbrev s_read_depth : Stmt := topS 46
theorem sc_read_depth : FnScope ["reader", "depth", "place", "code"] ["reader", "depth"] (defScope s_read_depth) := ⟨rfl, rfl, rfl, by decide +kernel, rfl, by decide +kernel, by decide +kernel⟩
abbrev s_read_zero_bit : Stmt := topS 47
theorem sc_read_zero_bit : FnScope ["reader", "place"] ["reader"] (defScope s_read_zero_bit) := ⟨rfl, rfl, rfl, by decide +kernel, rfl, by decide +kernel, by decide +kernel⟩
abbrev s_read_frame_number : Stmt := topS 48
theorem sc_read_frame_number : FnScope ["reader", "variable", "place", "number", "most"] ["reader", "variable"] (defScope s_read_frame_number) := ⟨rfl, rfl, rfl, by decide +kernel, rfl, by decide +kernel, by decide +kernel⟩
abbrev s_read_block_size : Stmt := topS 49
theorem sc_read_block_size : FnScope ["reader", "code", "place", "block_size"] ["reader", "code"] (defScope s_read_block_size) := ⟨rfl, rfl, rfl, by decide +kernel, rfl, by decide +kernel, by decide +kernel⟩
abbrev s_read_rate : Stmt := topS 50
theorem sc_read_rate : FnScope ["reader", "code", "rate"] ["reader", "code", "rate"] (defScope s_read_rate) := ⟨rfl, rfl, rfl, by decide +kernel, rfl, by decide +kernel, by decide +kernel⟩
abbrev s_read_checksum : Stmt := topS 51
theorem sc_read_checksum : FnScope ["reader", "start", "place", "expected"] ["reader", "start"] (defScope s_read_checksum) := ⟨rfl, rfl, rfl, by decide +kernel, rfl, by decide +kernel, by decide +kernel⟩
abbrev s_law_cell : Stmt := topS 53
theorem sc_law_cell : FnScope ["script", "k"] ["script", "k"] (defScope s_law_cell) := ⟨rfl, rfl, rfl, by decide +kernel, rfl, by decide +kernel, by decide +kernel⟩
abbrev s_law_number : Stmt := topS 55
theorem sc_law_number : FnScope ["value", "count", "first", "rest", "k"] ["value"] (defScope s_law_number) := ⟨rfl, rfl, rfl, by decide +kernel, rfl, by decide +kernel, by decide +kernel⟩
abbrev s_law_crc : Stmt := topS 56
theorem sc_law_crc : FnScope ["data", "value", "byte", "k"] ["data"] (defScope s_law_crc) := ⟨rfl, rfl, rfl, by decide +kernel, rfl, by decide +kernel, by decide +kernel⟩
abbrev s_law_code : Stmt := topS 57
theorem sc_law_code : FnScope ["table", "value", "code"] ["table", "value"] (defScope s_law_code) := ⟨rfl, rfl, rfl, by decide +kernel, rfl, by decide +kernel, by decide +kernel⟩
abbrev s_law_near : Stmt := topS 58
theorem sc_law_near : FnScope ["cell", "table", "most", "value"] ["cell", "table", "most"] (defScope s_law_near) := ⟨rfl, rfl, rfl, by decide +kernel, rfl, by decide +kernel, by decide +kernel⟩
abbrev s_law_size_form : Stmt := topS 59
theorem sc_law_size_form : FnScope ["size", "table", "code"] ["size"] (defScope s_law_size_form) := ⟨rfl, rfl, rfl, by decide +kernel, rfl, by decide +kernel, by decide +kernel⟩
abbrev s_law_rate_form : Stmt := topS 60
theorem sc_law_rate_form : FnScope ["hertz", "table", "code"] ["hertz"] (defScope s_law_rate_form) := ⟨rfl, rfl, rfl, by decide +kernel, rfl, by decide +kernel, by decide +kernel⟩
abbrev s_law_due : Stmt := topS 61
theorem sc_law_due : FnScope ["varies", "size", "hertz", "code", "deep", "index", "sizes", "rates", "depths", "data"] ["varies", "size", "hertz", "code", "deep", "index"] (defScope s_law_due) := ⟨rfl, rfl, rfl, by decide +kernel, rfl, by decide +kernel, by decide +kernel⟩
abbrev s_law : Stmt := topS 62
theorem sc_law : FnScope ["script", "varies", "sizes", "size", "rates", "hertz", "channel", "names", "way", "many", "deep", "most", "powers", "index", "header", "due", "data", "before", "after", "other_rate", "other_depth", "reader", "found", "k", "cell"] ["script"] (defScope s_law) := ⟨rfl, rfl, rfl, by decide +kernel, rfl, by decide +kernel, by decide +kernel⟩
theorem hu64 {A : Around} {k : Nat} (hr : Room k A) : A.units + 64 < cLine := hr.units
/-! ### short words for readings -/
theorem ret_eq {v w : V} {H H' : Hp} {Q : VK} (k : RetV v H Q) (ex : Ex H H') (e : w = v) : Q w H' := e ▸ k H' ex
/-- isinstance(x, T), T a built-in class -/
theorem ev_isi {K : PySem.W.Frag} {σ : L2.St} {H : Hp} {ta : TE} {x : V} {t : String} {T : String} {b : Bool} (ha : Ev ta σ H x) (ht : ∀ H1, Ex H H1 → TyX K H1 x (.type t)) (hk : kitB t T = some b) :
    Ev (tCB (rIsi K) (tCons ta (tCons (tC (.ty T)) tNil))) σ H (.bl b) :=
  ev_cb (ea_cons ha (ea_cons ev_c ea_nil)) fun H1 e Q q => ⟨x, .ty T, _, _, b, rfl, .ty T, ht H1 e, kit_ty hk, q H1 (Ex.refl H1)⟩
theorem isi_int {K : PySem.W.Frag} {H : Hp} {i : Int} : ∀ H1, Ex H H1 → TyX K H1 (V.int i) (.type "int") := fun _ _ => .base (.int _)
theorem isi_bl {K : PySem.W.Frag} {H : Hp} {b : Bool} : ∀ H1, Ex H H1 → TyX K H1 (V.bl b) (.type "bool") := fun _ _ => .base (.bl _)
theorem isi_non {K : PySem.W.Frag} {H : Hp} : ∀ H1, Ex H H1 → TyX K H1 V.non (.type "NoneType") := fun _ _ => .base .non
theorem isi_lst {K : PySem.W.Frag} {H : Hp} {a : Addr} {xs : List V} (h : H a = some (.lst xs)) : ∀ H1, Ex H H1 → TyX K H1 (V.ref a) (.type "list") := fun _ e => .base (.lst (e _ _ h))
theorem isi_tup {K : PySem.W.Frag} {H : Hp} {a : Addr} {xs : List V} (h : H a = some (.tup xs)) : ∀ H1, Ex H H1 → TyX K H1 (V.ref a) (.type "tuple") := fun _ e => .base (.tup (e _ _ h))
theorem kit_ii : kitB "int" "int" = some true := by decide +kernel
theorem kit_ib : kitB "int" "bool" = some false := by decide +kernel
theorem kit_bb : kitB "bool" "bool" = some true := by decide +kernel
theorem kit_bi : kitB "bool" "int" = some true := by decide +kernel
theorem kit_ll : kitB "list" "list" = some true := by decide +kernel
theorem kit_tt : kitB "tuple" "tuple" = some true := by decide +kernel
theorem ev_isiI {K : PySem.W.Frag} {σ : L2.St} {H : Hp} {ta : TE} {i : Int} (ha : Ev ta σ H (.int i)) : Ev (tCB (rIsi K) (tCons ta (tCons (tC (.ty "int")) tNil))) σ H (.bl true) := ev_isi ha isi_int kit_ii
theorem ev_isiB {K : PySem.W.Frag} {σ : L2.St} {H : Hp} {ta : TE} {i : Int} (ha : Ev ta σ H (.int i)) : Ev (tCB (rIsi K) (tCons ta (tCons (tC (.ty "bool")) tNil))) σ H (.bl false) := ev_isi ha isi_int kit_ib
theorem ev_isiL {K : PySem.W.Frag} {σ : L2.St} {H : Hp} {ta : TE} {a : Addr} {xs : List V} (ha : Ev ta σ H (.ref a)) (h : H a = some (.lst xs)) : Ev (tCB (rIsi K) (tCons ta (tCons (tC (.ty "list")) tNil))) σ H (.bl true) := ev_isi ha (isi_lst h) kit_ll
theorem ev_isiBB {K : PySem.W.Frag} {σ : L2.St} {H : Hp} {ta : TE} {b : Bool} (ha : Ev ta σ H (.bl b)) : Ev (tCB (rIsi K) (tCons ta (tCons (tC (.ty "bool")) tNil))) σ H (.bl true) := ev_isi ha isi_bl kit_bb
theorem ev_chain {σ : L2.St} {H : Hp} {ta tb tc : TE} {g g' : Int → Int → Bool} {a b c : Int} (ha : Ev ta σ H (.int a)) (hb : Ev tb σ H (.int b)) (hc : Ev tc σ H (.int c)) :
    Ev (tChain (rI0 fun i j => .bl (g i j)) (rI0 fun i j => .bl (g' i j)) ta tb tc) σ H (.bl (g a b && g' b c)) := fun H1 e Q q =>
  ha H1 e _ fun H2 e2 => hb H2 (e.trans e2) _ fun H3 e3 => ⟨a, b, rfl, rfl, g a b, rfl, by
    cases hg : g a b with
    | true =>
      rw [if_pos rfl]
      rw [hg, Bool.true_and] at q
      exact hc H3 ((e.trans e2).trans e3) _ fun H4 e4 => ⟨b, c, rfl, rfl, q H4 ((e2.trans e3).trans e4)⟩
    | false =>
      rw [if_neg (by decide)]
      rw [hg, Bool.false_and] at q
      exact q H3 (e2.trans e3)⟩
theorem ev_isN {σ : L2.St} {H : Hp} {ta : TE} {x : V} (ha : Ev ta σ H x) : Ev (tOp rIsN ta (tC .non)) σ H (.bl (decide (x = .non))) := fun H1 e Q q => ha H1 e _ fun H2 e2 => ⟨rfl, q H2 e2⟩
theorem ev_notN {σ : L2.St} {H : Hp} {ta : TE} {x : V} (ha : Ev ta σ H x) : Ev (tOp rNotN ta (tC .non)) σ H (.bl (!decide (x = .non))) := fun H1 e Q q => ha H1 e _ fun H2 e2 => ⟨rfl, q H2 e2⟩
theorem ev_min2 {σ : L2.St} {H : Hp} {ta tb : TE} {i j : Int} (ha : Ev ta σ H (.int i)) (hb : Ev tb σ H (.int j)) :
    Ev (tCB (fun xs H Q => ∃ i j, xs = [.int i, .int j] ∧ Q (.int (if j < i then j else i)) H) (tCons ta (tCons tb tNil))) σ H (.int (if j < i then j else i)) :=
  ev_cb (ea_cons ha (ea_cons hb ea_nil)) fun H1 _ _ q => ⟨i, j, rfl, q H1 (Ex.refl H1)⟩
theorem ev_negI {σ : L2.St} {H : Hp} {ta : TE} {i : Int} (ha : Ev ta σ H (.int i)) : Ev (tUn (rU fun i => .int (-i)) ta) σ H (.int (-i)) := ev_un ha ru_neg
theorem ev_I0 {σ : L2.St} {H : Hp} {ta tb : TE} {g : Int → Int → V} {i j : Int} (ha : Ev ta σ H (.int i)) (hb : Ev tb σ H (.int j)) : Ev (tOp (rI0 g) ta tb) σ H (g i j) := ev_op ha hb rv_I0
theorem ev_I {σ : L2.St} {H : Hp} {ta tb : TE} {C : Int → Int → Prop} {g : Int → Int → V} {i j : Int} (ha : Ev ta σ H (.int i)) (hb : Ev tb σ H (.int j)) (hc : C i j) : Ev (tOp (rI C g) ta tb) σ H (g i j) := ev_op ha hb (rv_I hc)
theorem ev_eq {σ : L2.St} {H : Hp} {ta tb : TE} {x y : V} (ha : Ev ta σ H x) (hb : Ev tb σ H y) (hs : scal x y = true) : Ev (tOp rEq ta tb) σ H (.bl (decide (x = y))) := ev_op ha hb (rv_eq hs)
theorem ev_ne {σ : L2.St} {H : Hp} {ta tb : TE} {x y : V} (ha : Ev ta σ H x) (hb : Ev tb σ H y) (hs : scal x y = true) : Ev (tOp rNe ta tb) σ H (.bl (!decide (x = y))) := ev_op ha hb (rv_ne hs)
theorem et_B' {σ : L2.St} {H : Hp} {te : TE} {x : V} {b : Bool} (h : Ev te σ H x) (e : x = .bl b) : EvT (tB te) σ H b := et_B (e ▸ h)
theorem dec_lt {a b : Nat} : decide ((a : Int) < (b : Int)) = decide (a < b) := by
  by_cases h : a < b
  · rw [decide_eq_true h, decide_eq_true (by omega)]
  · rw [decide_eq_false h, decide_eq_false (by omega)]
theorem int_at {ns : List Int} {i : Nat} {x : V} (hx : (ns.map V.int)[i]? = some x) : ∃ n, ns[i]? = some n ∧ i < ns.length ∧ x = V.int n := by
  rw [List.getElem?_map] at hx
  cases en : ns[i]? with
  | none => rw [en] at hx; cases hx
  | some n => rw [en] at hx; exact ⟨n, rfl, (List.getElem?_eq_some_iff.mp en).1, (Option.some.inj hx).symm⟩
theorem at_int {ns : List Int} {i : Nat} {n : Int} (h : ns[i]? = some n) : (ns.map V.int)[i]? = some (V.int n) := by rw [List.getElem?_map, h]; rfl
local macro_rules | `(tactic| walk_at "side") => `(tactic| first
  | omega | (show CMul _ _; unfold CMul; omega) | (show CDiv _ _; unfold CDiv; omega) | (show CPow _ _; unfold CPow; omega) | (show (_ : Int) < _; omega) | (show (_ : Int) ≤ _; omega) | decide)
local macro_rules | `(tactic| walk_at "ev") => `(tactic| first
  | exact ev_var rfl
  | exact ev_c
  | (refine' ev_I0 ?h1 ?h2; (case h1 => walk_at "ev"); (case h2 => walk_at "ev"))
  | (refine' ev_negI ?h1; (case h1 => walk_at "ev"))
  | (refine' ev_I ?h1 ?h2 ?hc; (case h1 => walk_at "ev"); (case h2 => walk_at "ev"); (case hc => walk_at "side"))
  | (refine' ev_eq ?h1 ?h2 ?hc; (case h1 => walk_at "ev"); (case h2 => walk_at "ev"); (case hc => rfl))
  | (refine' ev_ne ?h1 ?h2 ?hc; (case h1 => walk_at "ev"); (case h2 => walk_at "ev"); (case hc => rfl))
  | (refine' ev_max2 ?h1 ?h2; (case h1 => walk_at "ev"); (case h2 => walk_at "ev"))
  | (refine' ev_min2 ?h1 ?h2; (case h1 => walk_at "ev"); (case h2 => walk_at "ev"))
  | (refine' ev_chain ?h1 ?h2 ?h3; (case h1 => walk_at "ev"); (case h2 => walk_at "ev"); (case h3 => walk_at "ev"))
  | (refine' ev_isN ?h1; (case h1 => walk_at "ev"))
  | (refine' ev_notN ?h1; (case h1 => walk_at "ev"))
  | (refine' ev_isiI ?h1; (case h1 => walk_at "ev"))
  | (refine' ev_isiB ?h1; (case h1 => walk_at "ev"))
  | (refine' ev_isiBB ?h1; (case h1 => walk_at "ev"))
  | (refine' ev_andV ?h1 (fun _ => ?h2); (case h1 => walk_at "ev"); (case h2 => walk_at "ev"))
  | (refine' ev_orV ?h1 (fun _ => ?h2); (case h1 => walk_at "ev"); (case h2 => walk_at "ev"))
  | (refine' ev_notV ?h1; (case h1 => walk_at "ev"))
  | walk_at "evmore")
local macro_rules | `(tactic| walk_at "et") => `(tactic| first
  | (refine' et_test ?h1; (case h1 => walk_at "ev"))
  | (refine' et_B ?h1; (case h1 => walk_at "ev"))
  | (refine' et_not ?h1; (case h1 => walk_at "et"))
  | (refine' et_and ?h1 (fun _ => ?h2); (case h1 => walk_at "et"); (case h2 => walk_at "et"))
  | (refine' et_or ?h1 (fun _ => ?h2); (case h1 => walk_at "et"); (case h2 => walk_at "et")))
local macro_rules | `(tactic| walk_at "ea") => `(tactic| first
  | exact ea_nil
  | (refine' ea_cons ?h1 ?h2; (case h1 => walk_at "ev"); (case h2 => walk_at "ea")))
local macro_rules | `(tactic| walk_at "when") => `(tactic| (refine' q_when ?h ?h1 ?h2; (case h => walk_at "et")))
local macro_rules | `(tactic| walk_at "whenS") => `(tactic| (refine' s_when ?h ?h1 ?h2; (case h => walk_at "et")))
local macro_rules | `(tactic| walk_at "if") => `(tactic| (refine' q_if ?h ?h1 ?h2; (case h => walk_at "et")))
local macro_rules | `(tactic| walk_at "ifS") => `(tactic| (refine' s_if ?h ?h1 ?h2; (case h => walk_at "et")))
local macro_rules | `(tactic| walk_at "ret") => `(tactic| (refine' s_ret ?h ?h1; (case h => walk_at "ev")))
local macro_rules | `(tactic| walk_at "asg") => `(tactic| (refine' q_asg ?h ?h1; (case h => walk_at "ev")))
local macro_rules | `(tactic| walk_at "asgS") => `(tactic| (refine' s_asg ?h ?h1; (case h => walk_at "ev")))

/-! ### lists, existing or new -/
def EvR (te : TE) (σ : L2.St) (H : Hp) (xs : List V) : Prop := ∀ H1, Ex H H1 → ∀ Q : VK, (∀ p H2, Ex H1 H2 → H2 p = some (.lst xs) → Q (.ref p) H2) → te σ H1 Q
def EvS (K : PySem.W.Frag) (te : TE) (σ : L2.St) (H : Hp) (xs : List V) : Prop := ∀ H1, Ex H H1 → ∀ Q : VK, (∀ p H2, Ex H1 H2 → SqL K H2 p xs → Q (.ref p) H2) → te σ H1 Q
section
variable {K : PySem.W.Frag} {σ : L2.St} {H H' : Hp} {ta tb te : TE} {xs ys : List V} {a : Addr}
theorem EvL.r (h : EvL te σ H xs) : EvR te σ H xs := fun H1 e Q q => h H1 e Q fun p H2 _ e2 h2 => q p H2 e2 h2
theorem Ev.r (h : Ev te σ H (.ref a)) (hx : H a = some (.lst xs)) : EvR te σ H xs := fun H1 e Q q => h H1 e Q fun H2 e2 => q a H2 e2 (e2 _ _ (e _ _ hx))
theorem EvR.s (h : EvR te σ H xs) : EvS K te σ H xs := fun H1 e Q q => h H1 e Q fun p H2 e2 h2 => q p H2 e2 (sq_of h2)
theorem Ev.s (h : Ev te σ H (.ref a)) (hx : SqL K H a xs) : EvS K te σ H xs := fun H1 e Q q => h H1 e Q fun H2 e2 => q a H2 e2 (ex_l e2 (ex_l e hx))
theorem EvR.mono (e : Ex H H') (h : EvR te σ H xs) : EvR te σ H' xs := fun H1 a Q q => h H1 (e.trans a) Q q
theorem EvS.mono (e : Ex H H') (h : EvS K te σ H xs) : EvS K te σ H' xs := fun H1 a Q q => h H1 (e.trans a) Q q
theorem EvL.is (h : EvL te σ H xs) (e : xs = ys) : EvL te σ H ys := e ▸ h
theorem EvR.is (h : EvR te σ H xs) (e : xs = ys) : EvR te σ H ys := e ▸ h
theorem el_cat (ha : EvR ta σ H xs) (hb : EvR tb σ H ys) (hl : xs.length + ys.length ≤ 100000) : EvL (tOp rCat ta tb) σ H (xs ++ ys) := fun H1 e Q q =>
  ha H1 e _ fun p H2 e2 h2 => hb H2 (e.trans e2) _ fun r H3 e3 h3 => ⟨p, r, xs, ys, rfl, rfl, e3 _ _ h2, h3, sz_of hl, fun l hl => q l _ (fresh_back (e2.trans e3) hl) ((e2.trans e3).trans (Ex.new hl)) upd_same⟩
theorem el_rep {k : Int} (ha : EvR ta σ H xs) (hb : Ev tb σ H (.int k)) (hk : -(2 ^ 63) ≤ k ∧ k < 2 ^ 63) (hl : xs.length * k.toNat ≤ 100000) : EvL (tOp rRep ta tb) σ H (List.replicate k.toNat xs).flatten := fun H1 e Q q =>
  ha H1 e _ fun p H2 e2 h2 => hb H2 (e.trans e2) _ fun H3 e3 => ⟨p, k, xs, rfl, rfl, e3 _ _ h2, hk.1, hk.2, sz_of hl, fun l hl => q l _ (fresh_back (e2.trans e3) hl) ((e2.trans e3).trans (Ex.new hl)) upd_same⟩
theorem rep_one {x : V} (n : Nat) : (List.replicate n [x]).flatten = List.replicate n x := by
  induction n with
  | zero => rfl
  | succ n ih => rw [List.replicate_succ, List.replicate_succ, List.flatten_cons, ih]; rfl
theorem el_of {te : TE} (h : EvS K te σ H xs) : EvL (tCB (rListS K) (tCons te tNil)) σ H xs := fun H1 e Q q =>
  h H1 e _ fun p H2 e2 h2 => ⟨p, xs, rfl, .inl h2, fun l hl => q l _ (fresh_back e2 hl) (e2.trans (Ex.new hl)) upd_same⟩
theorem ev_lenS (h : EvS K te σ H xs) : Ev (tCB (rLenS K) (tCons te tNil)) σ H (.int (xs.length : Int)) := fun H1 e Q q =>
  h H1 e _ fun p H2 e2 h2 => ⟨p, xs, rfl, .inl h2, q H2 e2⟩
theorem ev_sum {ns : List Int} (h : EvS K te σ H (ns.map V.int)) : Ev (tCB (rSum K) (tCons te tNil)) σ H (.int ns.sum) := fun H1 e Q q =>
  h H1 e _ fun p H2 e2 h2 => ⟨p, ns, rfl, h2, q H2 e2⟩
theorem dp_ints {K : PySem.W.Frag} {H : Hp} : ∀ ns : List Int, DpAll K H (ns.map V.int) (ns.map PyData.int)
  | [] => .nil
  | n :: r => .cons (.int n) (dp_ints r)
theorem eqv_ints : ∀ ns ms : List Int, PyData.eqvAll (ns.map PyData.int) (ms.map PyData.int) = decide (ns = ms)
  | [], [] => by simp [PyData.eqvAll]
  | [], _ :: _ => by simp [PyData.eqvAll]
  | _ :: _, [] => by simp [PyData.eqvAll]
  | n :: r, m :: t => by
    show (PyData.eqv (.int n) (.int m) && PyData.eqvAll (r.map PyData.int) (t.map PyData.int)) = _
    rw [eqv_ints r t]
    show ((n == m) && decide (r = t)) = _
    by_cases h1 : n = m <;> by_cases h2 : r = t <;> simp [h1, h2]
theorem canLay_ints : ∀ ns : List Int, PyData.canLayAll0 (ns.map PyData.int) = true
  | [] => by simp [PyData.canLayAll0]
  | n :: r => by
    show PyData.canLayAll0 (PyData.int n :: r.map PyData.int) = true
    rw [PyData.canLayAll0, canLay_ints r]
    simp [PyData.canLay0]
theorem depth_ints : ∀ ns : List Int, PyData.depthAll (ns.map PyData.int) ≤ 1
  | [] => by simp [PyData.depthAll]
  | n :: r => by
    show PyData.depthAll (PyData.int n :: r.map PyData.int) ≤ 1
    have := depth_ints r
    simp only [PyData.depthAll, PyData.depth]
    omega
theorem shaped_ints (ns : List Int) : SeqAt.shaped (.list (ns.map PyData.int)) = true := by
  unfold SeqAt.shaped
  have h1 := canLay_ints ns
  have h2 := depth_ints ns
  have h3 : PyData.depth (.list (ns.map PyData.int)) ≤ 64 := by
    rw [PyData.depth]
    omega
  rw [decide_eq_true h3, Bool.and_true]
  simpa only [PyData.canLay0] using h1
theorem ev_eqI {ns ms : List Int} (ha : EvS K ta σ H (ns.map V.int)) (hb : EvS K tb σ H (ms.map V.int)) : Ev (tOp (rEqD K) ta tb) σ H (.bl (decide (ns = ms))) := fun H1 e Q q =>
  ha H1 e _ fun p H2 e2 h2 => hb H2 (e.trans e2) _ fun r H3 e3 h3 => ⟨.list (ns.map PyData.int), .list (ms.map PyData.int), .lst (ex_l e3 h2) (dp_ints ns), .lst h3 (dp_ints ms), shaped_ints ns, shaped_ints ms, by
    show Q (.bl (PyData.eqvAll (ns.map PyData.int) (ms.map PyData.int))) H3
    rw [eqv_ints]
    exact q H3 (e2.trans e3)⟩
theorem ev_neI {ns ms : List Int} (ha : EvS K ta σ H (ns.map V.int)) (hb : EvS K tb σ H (ms.map V.int)) : Ev (tOp (rNeD K) ta tb) σ H (.bl (!decide (ns = ms))) := fun H1 e Q q =>
  ha H1 e _ fun p H2 e2 h2 => hb H2 (e.trans e2) _ fun r H3 e3 h3 => ⟨.list (ns.map PyData.int), .list (ms.map PyData.int), .lst (ex_l e3 h2) (dp_ints ns), .lst h3 (dp_ints ms), shaped_ints ns, shaped_ints ms, by
    show Q (.bl (!PyData.eqvAll (ns.map PyData.int) (ms.map PyData.int))) H3
    rw [eqv_ints]
    exact q H3 (e2.trans e3)⟩
theorem ev_ixS {i : Nat} {n : Int} {tl ti : TE} {v : V} (h : EvS K tl σ H xs) (hi : Ev ti σ H (.int n)) (ha : atI xs n = some v) : Ev (tOp (rIxL K) tl ti) σ H v := fun H1 e Q q =>
  h H1 e _ fun p H2 e2 h2 => hi H2 (e.trans e2) _ fun H3 e3 => ⟨p, xs, n, v, rfl, rfl, ex_l e3 h2, ha, q H3 (e2.trans e3)⟩
theorem el_slS {tl th : TO} {lo hi : Option Int} (h : EvS K te σ H xs) (h1 : EvO tl σ H lo) (h2 : EvO th σ H hi) : EvL (tSl (rSlL K) te tl th) σ H (cutV xs lo hi) := fun H1 e _ q =>
  h H1 e _ fun a H2 e2 hs => h1 H2 (e.trans e2) _ fun H3 e3 => h2 H3 ((e.trans e2).trans e3) _ fun H4 e4 =>
    ⟨a, xs, rfl, ex_l (e3.trans e4) hs, fun p hp => q p _ (fresh_back ((e2.trans e3).trans e4) hp) (((e2.trans e3).trans e4).trans (Ex.new hp)) upd_same⟩
theorem ev_at {n : Int} {tl ti : TE} {v : V} (h : EvS K tl σ H xs) (hi : Ev ti σ H (.int n)) (ha : atI xs n = some v) : Ev (tOp (rIxL K) tl ti) σ H v := ev_ixS (i := 0) h hi ha
theorem cut_to (xs : List V) (i : Nat) : cutV xs none (some (i : Int)) = xs.take i := by
  unfold cutV
  rw [HT.sIx_none, HT.sIx_nat, List.drop_zero, Nat.sub_zero]
  by_cases h : i ≤ xs.length
  · rw [Nat.min_eq_left h]
  · rw [Nat.min_eq_right (by omega), List.take_of_length_le (Nat.le_refl _), List.take_of_length_le (by omega)]
theorem cut_from (xs : List V) (i : Nat) : cutV xs (some (i : Int)) none = xs.drop i := by
  unfold cutV
  rw [HT.sIx_none, HT.sIx_nat]
  by_cases h : i ≤ xs.length
  · rw [Nat.min_eq_left h, List.take_of_length_le (by rw [List.length_drop]; omega)]
  · rw [Nat.min_eq_right (by omega), List.drop_of_length_le (Nat.le_refl _), List.drop_of_length_le (show xs.length ≤ i by omega), List.take_nil]
theorem cut_mid (xs : List V) (i j : Nat) : cutV xs (some (i : Int)) (some (j : Int)) = (xs.drop i).take (j - i) := by
  unfold cutV
  rw [HT.sIx_nat, HT.sIx_nat]
  by_cases h : i ≤ xs.length
  · rw [Nat.min_eq_left h]
    by_cases h2 : j ≤ xs.length
    · rw [Nat.min_eq_left h2]
    · rw [Nat.min_eq_right (by omega), List.take_of_length_le (by rw [List.length_drop]; omega), List.take_of_length_le (by rw [List.length_drop]; omega)]
  · rw [Nat.min_eq_right (by omega : xs.length ≤ i), List.drop_of_length_le (Nat.le_refl _), List.drop_of_length_le (show xs.length ≤ i by omega)]
    simp
theorem el_to {th : TE} {ns : List Int} {i : Nat} (h : EvS K te σ H (ns.map V.int)) (h2 : Ev th σ H (.int i)) : EvL (tSl (rSlL K) te tNoPart (tPart th)) σ H ((ns.take i).map V.int) :=
  EvL.is (el_slS h eo_none (eo_some h2)) (by rw [List.map_take]; exact cut_to _ i)
theorem el_from {th : TE} {ns : List Int} {i : Nat} (h : EvS K te σ H (ns.map V.int)) (h2 : Ev th σ H (.int i)) : EvL (tSl (rSlL K) te (tPart th) tNoPart) σ H ((ns.drop i).map V.int) :=
  EvL.is (el_slS h (eo_some h2) eo_none) (by rw [List.map_drop]; exact cut_from _ i)
theorem el_mid {t1 t2 : TE} {ns : List Int} {i j : Nat} (h : EvS K te σ H (ns.map V.int)) (h1 : Ev t1 σ H (.int i)) (h2 : Ev t2 σ H (.int j)) : EvL (tSl (rSlL K) te (tPart t1) (tPart t2)) σ H (((ns.drop i).take (j - i)).map V.int) :=
  EvL.is (el_slS h (eo_some h1) (eo_some h2)) (by rw [List.map_take, List.map_drop]; exact cut_mid _ i j)
section
variable {D : Ends} {tz : TS} {sp : Sp} {dvs vs : List V} {E : XK} {tA : TA}
/-- x = f(..), whatever f promises -/
theorem q_asgC {i : Nat} (h : EvA tA σ H vs) (k : ∀ H1, Ex H H1 → sp (vs ++ dvs) H1 (fun x H2 => tz D (σ.set i (some x)) H2) E) : tSeq (tAsg (tCall sp dvs E tA) (gName i)) tz D σ H := h H (Ex.refl H) _ fun H1 e => k H1 e
theorem s_asgC {i : Nat} (h : EvA tA σ H vs) (k : ∀ H1, Ex H H1 → sp (vs ++ dvs) H1 (fun x H2 => D.nx (σ.set i (some x)) H2) E) : tAsg (tCall sp dvs E tA) (gName i) D σ H := h H (Ex.refl H) _ fun H1 e => k H1 e
theorem q_dropC (h : EvA tA σ H vs) (k : ∀ H1, Ex H H1 → sp (vs ++ dvs) H1 (fun _ H2 => tz D σ H2) E) : tSeq (tDrop (tCall sp dvs E tA)) tz D σ H := h H (Ex.refl H) _ fun H1 e => k H1 e
theorem s_retC (h : EvA tA σ H vs) (k : ∀ H1, Ex H H1 → sp (vs ++ dvs) H1 D.rt E) : tRet (tCall sp dvs E tA) D σ H := h H (Ex.refl H) _ fun H1 e => k H1 e
end
theorem gl_get {ns : List Int} {i : Nat} (h : i < ns.length) : ns[i]? = some (ns.getD i 0) := by
  rw [List.getD_eq_getElem?_getD, List.getElem?_eq_getElem h]
  rfl
theorem q_asgRaw {te : TE} {i : Nat} {D : Ends} {tz : TS} (P : V → Hp → Prop) (h : ∀ Q : VK, (∀ x H2, P x H2 → Q x H2) → te σ H Q) (k : ∀ x H2, P x H2 → tz D (σ.set i (some x)) H2) : tSeq (tAsg te (gName i)) tz D σ H := h _ k
/-- a, b = a pair -/
theorem q_asgT {te : TE} {i j : Nat} {D : Ends} {tz : TS} (P : V → V → Hp → Prop) (h : ∀ Q : VK, (∀ t x y H2, P x y H2 → SqT K H2 t [x, y] → Q (.ref t) H2) → te σ H Q) (k : ∀ x y H2, P x y H2 → tz D ((σ.set i (some x)).set j (some y)) H2) :
    tSeq (tAsg te (gTup K 2 (gCons (gName i) (gCons (gName j) gNil)))) tz D σ H := h _ fun t x y H2 hP hT => ⟨t, [x, y], rfl, hT, rfl, x, [y], rfl, y, [], rfl, rfl, k x y H2 hP⟩
/-- the law's cell -/
def cellI (ns : List Int) (k : Int) : Int := ns.getD k.toNat 0
theorem cellI_in {ns : List Int} {k : Int} (h0 : 0 ≤ k) (h : k < ns.length) : ns[k.toNat]? = some (cellI ns k) := by
  unfold cellI
  rw [List.getD_eq_getElem?_getD, List.getElem?_eq_getElem (by omega)]
  rfl
theorem cellI_out {ns : List Int} {k : Int} (h : ¬ k < ns.length) : cellI ns k = 0 := by
  unfold cellI
  rw [List.getD_eq_getElem?_getD, List.getElem?_eq_none (by omega)]
  rfl
end
theorem Ex.get {H H' : Hp} {a : Addr} {o : HO} (e : Ex H H') (h : H a = some o) : H' a = some o := e a o h
local macro_rules | `(tactic| walk_at "hp") => `(tactic| first
  | assumption
  | exact upd_same
  | (refine' Ex.get (by assumption) ?h1; (case h1 => walk_at "hp")))
local macro_rules | `(tactic| walk_at "ex") => `(tactic| first
  | assumption
  | exact Ex.refl _
  | (refine' Ex.trans ?h1 (by assumption); (case h1 => walk_at "ex")))
local macro_rules | `(tactic| walk_at "sq") => `(tactic| first
  | assumption
  | (refine' sq_of ?h1; (case h1 => walk_at "hp"))
  | (refine' ex_l (by assumption) ?h1; (case h1 => walk_at "sq")))
local macro_rules | `(tactic| walk_at "evs") => `(tactic| first
  | (refine' Ev.s ?h1 ?h2; (case h1 => exact ev_var rfl); (case h2 => walk_at "sq"))
  | (refine' EvR.s ?h1; (case h1 => walk_at "evr")))
local macro_rules | `(tactic| walk_at "evr") => `(tactic| first
  | (refine' Ev.r ?h1 ?h2; (case h1 => exact ev_var rfl); (case h2 => walk_at "hp"))
  | (refine' EvL.r ?h1; (case h1 => walk_at "el")))
local macro_rules | `(tactic| walk_at "eo") => `(tactic| first
  | exact eo_none
  | (refine' eo_some ?h1; (case h1 => walk_at "ev")))
local macro_rules | `(tactic| walk_at "el") => `(tactic| first
  | (refine' el_lst ?h1 ?h2; (case h1 => walk_at "ea"); (case h2 => exact Nat.le_of_ble_eq_true rfl))
  | (refine' el_cat ?h1 ?h2 ?h3; (case h1 => walk_at "evr"); (case h2 => walk_at "evr"); (case h3 => walk_at "len"))
  | (refine' el_rep ?h1 ?h2 ?h3 ?h4; (case h1 => walk_at "evr"); (case h2 => walk_at "ev"); (case h3 => walk_at "side2"); (case h4 => walk_at "len"))
  | (refine' el_of ?h1; (case h1 => walk_at "evs"))
  | (refine' el_to ?h1 ?h2; (case h1 => walk_at "evs"); (case h2 => walk_at "ev"))
  | (refine' el_from ?h1 ?h2; (case h1 => walk_at "evs"); (case h2 => walk_at "ev"))
  | (refine' el_mid ?h1 ?h2 ?h3; (case h1 => walk_at "evs"); (case h2 => walk_at "ev"); (case h3 => walk_at "ev"))
  | (refine' el_slS ?h1 ?h2 ?h3; (case h1 => walk_at "evs"); (case h2 => walk_at "eo"); (case h3 => walk_at "eo"))
  | walk_at "elmore")
local macro_rules | `(tactic| walk_at "evmore") => `(tactic| first
  | (refine' ev_lenS ?h1; (case h1 => walk_at "evs"))
  | (refine' ev_sum ?h1; (case h1 => walk_at "evs"))
  | (refine' ev_eqI ?h1 ?h2; (case h1 => walk_at "evs"); (case h2 => walk_at "evs"))
  | (refine' ev_neI ?h1 ?h2; (case h1 => walk_at "evs"); (case h2 => walk_at "evs"))
  | (refine' ev_at ?h1 ?h2 ?h3; (case h1 => walk_at "evs"); (case h2 => walk_at "ev"); (case h3 => walk_at "at"))
  | (refine' ev_isiL ?h1 ?h2; (case h1 => walk_at "ev"); (case h2 => walk_at "hp"))
  | walk_at "evown")
local macro_rules | `(tactic| walk_at "at") => `(tactic| first
  | exact at_of rfl (at_int (by assumption))
  | exact at_of rfl (by assumption))
local macro_rules | `(tactic| walk_at "asgL") => `(tactic| (refine' q_asgL ?h ?h1; (case h => walk_at "el")))
local macro_rules | `(tactic| walk_at "retL") => `(tactic| (refine' s_retL ?h ?h1; (case h => walk_at "el")))

/-- a walk's reading said in other words -/
theorem PI.k {X : Cx} {tg e : Expr} {wi wi' : TI} (h : PI X tg e wi) (q : wi = wi') : PI X tg e wi' := q ▸ h
/-! ### comprehensions whose items are said in a list -/
theorem et_yes {σ : L2.St} {H : Hp} : EvT tYes σ H true := fun H1 _ _ q => q H1 (Ex.refl H1)
section
variable {K : PySem.W.Frag} {σ : L2.St} {H : Hp} {t1 t2 te : TE} {xs ys zs : List V} {vs : List Nat}
theorem take_snoc {zs : List V} {i : Nat} {z : V} (h : zs[i]? = some z) : zs.take (i + 1) = zs.take i ++ [z] := by
  rw [List.take_add_one, h]
  rfl
theorem el_lcZ {j1 j2 : Nat} (zs : List V) (h1 : EvS K t1 σ H xs) (h2 : EvS K t2 σ H ys) (hz : zs.length = min xs.length ys.length) (hb : zs.length ≤ 50000)
    (hw : ∀ x y, wipe (((wipe σ vs).set j1 (some x)).set j2 (some y)) vs = wipe σ vs)
    (he : ∀ (i : Nat) (x y : V) H1, Ex H H1 → xs[i]? = some x → ys[i]? = some y → ∃ z, zs[i]? = some z ∧ Ev te (((wipe σ vs).set j1 (some x)).set j2 (some y)) H1 z) :
    EvL (tLc (iZip K (tCons t1 (tCons t2 tNil))) (gTup K 2 (gCons (gName j1) (gCons (gName j2) gNil))) tYes te vs) σ H zs := fun H0 e Q q =>
  h1 H0 e _ fun p H1 e1 hp => h2 H1 (e.trans e1) _ fun r H2 e2 hr => ⟨p, r, xs, ys, rfl, ex_l e2 hp, hr, fun D hD =>
    ⟨fun i m H' => m = zs.length - i ∧ i ≤ zs.length ∧ Ex H2 H' ∧ H' D = some (.lst (zs.take i)), ⟨zs.length, rfl, Nat.zero_le _, Ex.new hD, upd_same⟩, by
      rintro i m H' ⟨rfl, hi, ex, hd⟩
      have qx : SqL K H' p xs := ex_l (e2.trans ex) hp
      have qy : SqL K H' r ys := ex_l ex hr
      by_cases hlt : i < zs.length
      · have hx : xs[i]? = some xs[i] := List.getElem?_eq_getElem (by omega)
        have hy : ys[i]? = some ys[i] := List.getElem?_eq_getElem (by omega)
        refine .inr ⟨⟨xs, ys, _, _, qx, qy, hx, hy⟩, fun H3 => i + 1 ≤ zs.length ∧ Ex H2 H3 ∧ H3 D = some (.lst (zs.take (i + 1))), fun H3 h3 => ⟨zs.length - (i + 1), by omega, rfl, h3⟩, fun v H3 hv => ?_⟩
        obtain ⟨T, x, y, rfl, hT, rfl, f1, f2⟩ := hv
        have ex3 : Ex H' (upd H' T (.tup [x, y])) := Ex.new hT
        obtain ⟨z, hz1, hz2⟩ := he i x y (upd H' T (.tup [x, y])) ((((e.trans e1).trans e2).trans ex).trans ex3) (f1 _ qx) (f2 _ qy)
        refine ⟨T, [x, y], rfl, st_of upd_same, rfl, x, [y], rfl, y, [], rfl, rfl, hw x y, ?_⟩
        refine hz2 _ (Ex.refl _) _ fun H4 e4 => ⟨zs.take i, e4 _ _ (ex3 _ _ hd), sz_lt (by rw [List.length_take]; omega), hlt, ?_, ?_⟩
        · exact Ex.mut ((ex.trans ex3).trans e4) hD
        · rw [upd_same, take_snoc hz1]
      · have ei : i = zs.length := by omega
        refine .inl ⟨⟨xs, ys, qx, qy, by omega⟩, ?_⟩
        rw [ei, List.take_length] at hd
        exact q D H' (fresh_back (e1.trans e2) hD) ((e1.trans e2).trans ex) hd⟩⟩
/-- over a list, each item kept -/
theorem el_lcS {j : Nat} (zs : List V) (h1 : EvS K t1 σ H xs) (hz : zs.length = xs.length) (hb : zs.length ≤ 50000) (hw : ∀ x, wipe ((wipe σ vs).set j (some x)) vs = wipe σ vs)
    (he : ∀ (i : Nat) (x : V) H1, Ex H H1 → xs[i]? = some x → ∃ z, zs[i]? = some z ∧ Ev te ((wipe σ vs).set j (some x)) H1 z) :
    EvL (tLc (iList K t1) (gName j) tYes te vs) σ H zs := fun H0 e Q q =>
  h1 H0 e _ fun p H1 e1 hp => ⟨p, rfl, ⟨xs, hp⟩, fun D hD => lc_list (xs := xs) (fun i H' => Ex H1 H' ∧ H' D = some (.lst (zs.take i))) ⟨Ex.new hD, upd_same⟩ (fun i H' _ h => ex_l h.1 hp)
    (fun i x H' hi h => ⟨hw x, by
      obtain ⟨z, hz1, hz2⟩ := he i x H' ((e.trans e1).trans h.1) hi
      have hl : i < xs.length := (List.getElem?_eq_some_iff.mp hi).1
      refine hz2 H' (Ex.refl _) _ fun H4 e4 => ⟨zs.take i, e4 _ _ h.2, sz_lt (by rw [List.length_take]; omega), Ex.mut (h.1.trans e4) hD, ?_⟩
      rw [upd_same, take_snoc hz1]⟩)
    (fun H' h => q D H' (fresh_back e1 hD) (e1.trans h.1) (by rw [h.2, ← hz, List.take_length]))⟩
/-- over range(n) -/
theorem el_lcR {ta : TA} {n : Int} {j : Nat} (zs : List V) (h1 : EvA ta σ H [.int n]) (hn : -100000 ≤ n) (hz : zs.length = n.toNat) (hb : zs.length ≤ 50000) (hw : ∀ x, wipe ((wipe σ vs).set j (some x)) vs = wipe σ vs)
    (he : ∀ (i : Nat) H1, Ex H H1 → i < zs.length → ∃ z, zs[i]? = some z ∧ Ev te ((wipe σ vs).set j (some (.int (i : Int)))) H1 z) :
    EvL (tLc (iRng1 ta) (gName j) tYes te vs) σ H zs := fun H0 e Q q =>
  h1 H0 e _ fun H1 e1 => ⟨n, rfl, by omega, by omega, fun D hD => lc_range (lo := 0) (n := n.toNat) (fun i H' => Ex H1 H' ∧ H' D = some (.lst (zs.take i))) ⟨Ex.new hD, upd_same⟩
    (fun i H' hi h => by
      have e0 : (0 : Int) + (i : Int) = (i : Int) := Int.zero_add _
      rw [e0]
      obtain ⟨z, hz1, hz2⟩ := he i H' ((e.trans e1).trans h.1) (by omega)
      refine ⟨hw _, hz2 H' (Ex.refl _) _ fun H4 e4 => ⟨zs.take i, e4 _ _ h.2, sz_lt (by rw [List.length_take]; omega), Ex.mut (h.1.trans e4) hD, ?_⟩⟩
      rw [upd_same, take_snoc hz1])
    (fun H' h => q D H' (fresh_back e1 hD) (e1.trans h.1) (by rw [h.2, show n.toNat = zs.length by omega, List.take_length]))⟩
/-- y = [.. for x in f(..)], whatever f promises -/
theorem s_asgLC {sp : Sp} {dvs args : List V} {E : XK} {ta : TA} {g : TG} {tt : TT} {D : Ends} {i : Nat} (h : EvA ta σ H args) (k : ∀ H1, Ex H H1 → sp (args ++ dvs) H1 (fun x H2 => tAsg (tLc (iList K (tC x)) g tt te vs) (gName i) D σ H2) E) :
    tAsg (tLc (iList K (tCall sp dvs E ta)) g tt te vs) (gName i) D σ H := h H (Ex.refl H) _ fun H1 e => k H1 e
theorem q_asgLC {sp : Sp} {dvs args : List V} {E : XK} {ta : TA} {g : TG} {tt : TT} {D : Ends} {i : Nat} {tz : TS} (h : EvA ta σ H args) (k : ∀ H1, Ex H H1 → sp (args ++ dvs) H1 (fun x H2 => tSeq (tAsg (tLc (iList K (tC x)) g tt te vs) (gName i)) tz D σ H2) E) :
    tSeq (tAsg (tLc (iList K (tCall sp dvs E ta)) g tt te vs) (gName i)) tz D σ H := h H (Ex.refl H) _ fun H1 e => k H1 e
theorem s_retLC {sp : Sp} {dvs args : List V} {E : XK} {ta : TA} {g : TG} {tt : TT} {D : Ends} (h : EvA ta σ H args) (k : ∀ H1, Ex H H1 → sp (args ++ dvs) H1 (fun x H2 => tRet (tLc (iList K (tC x)) g tt te vs) D σ H2) E) :
    tRet (tLc (iList K (tCall sp dvs E ta)) g tt te vs) D σ H := h H (Ex.refl H) _ fun H1 e => k H1 e
end

/-! ### calls with keywords, defaults -/
theorem kwAllN {K : PySem.W.Frag} {D : Addr} : ∀ p ∈ ([] : List (Str × V)), ∃ u, PySem.W.nsIn K D p.1 = some (some u) ∧ RelV p.2 u := fun p hp => by cases hp
theorem kwAllC {K : PySem.W.Frag} {D : Addr} {q : Str × V} {l : List (Str × V)} (h : ∃ u, PySem.W.nsIn K D q.1 = some (some u) ∧ RelV q.2 u) (hl : ∀ p ∈ l, ∃ u, PySem.W.nsIn K D p.1 = some (some u) ∧ RelV p.2 u) : ∀ p ∈ q :: l, ∃ u, PySem.W.nsIn K D p.1 = some (some u) ∧ RelV p.2 u := fun p hp => by
  rcases List.mem_cons.mp hp with rfl | hp
  · exact h
  · exact hl p hp
theorem kwAll1 {K : PySem.W.Frag} {D : Addr} {q : Str × V} (h : ∃ u, PySem.W.nsIn K D q.1 = some (some u) ∧ RelV q.2 u) : ∀ p ∈ [q], ∃ u, PySem.W.nsIn K D p.1 = some (some u) ∧ RelV p.2 u := fun p hp => by
  rcases List.mem_cons.mp hp with rfl | hp
  · exact h
  · cases hp
section
variable {K : PySem.W.Frag} {x qual : Str} {params : Arguments} {body : List Stmt} {scope : Scope} {dvs : List V} {kws : List (Str × V)} {f : Addr} {fd : FuncData} {ps : List Str}
/-- f(a, .., k = v, ..), nothing left to a default, no defaults of place -/
theorem fund_kb0 {g : List Value → List Value → List Value} {gV : List V → List V → List V} (F : FunD K x qual params body scope [] kws f fd) (n : Nat) (ks : List Str)
    (hrel : ∀ {vs : List V} {us : List Value} {zs : List V} {ws : List Value}, Vals vs us → Vals zs ws → Vals (gV vs zs) (g us ws))
    (h : ∀ (kV doc pm : Value) (an : Option Addr) (cdv ct : Value) (us ws : List Value), us.length = n → ws.length = ks.length → bindArgs (PySem.W.fnOf x qual params body scope .none kV doc pm an cdv ct) ⟨us, ks.zip ws⟩ = pure (ps.zip (g us ws))) :
    KBn K fd ps n ks g gV := by
  obtain ⟨oc, od, dV, kV, doc, pm, an, cdv, ct, osl, rfl, lk, hcd, hD, hK⟩ := F.ex
  rcases hD with ⟨_, rfl⟩ | ⟨e, _⟩
  · exact ⟨fun s us ws X l1 l2 => .of_eq (h kV doc pm an cdv ct us ws l1 l2), hrel⟩
  · exact absurd rfl e
/-- the same of a def with defaults of place -/
theorem fund_kb1 {g : List Value → List Value → List Value} {gV : List V → List V → List V} (F : FunD K x qual params body scope dvs kws f fd) (hd : dvs ≠ []) (n : Nat) (ks : List Str)
    (hrel : ∀ {vs : List V} {us : List Value} {zs : List V} {ws : List Value}, Vals vs us → Vals zs ws → Vals (gV vs zs) (g us ws))
    (h : ∀ (T : Addr) (kV doc pm : Value) (an : Option Addr) (cdv ct : Value) (us its ws : List Value), us.length = n → its.length = dvs.length → ws.length = ks.length →
      ∃ k, bindArgs (PySem.W.fnOf x qual params body scope (.ref T) kV doc pm an cdv ct) ⟨us, ks.zip ws⟩ = seqItems? (.ref T) >>= k ∧ k (some its.toArray) = pure (ps.zip (g us ws))) :
    KBn K fd ps n ks g gV := by
  obtain ⟨oc, od, dV, kV, doc, pm, an, cdv, ct, osl, rfl, lk, hcd, hD, hK⟩ := F.ex
  rcases hD with ⟨e, _⟩ | ⟨_, T, o, its, m, rfl, lT, oT, rT⟩
  · exact absurd e hd
  · refine ⟨fun s us ws X l1 l2 => ?_, hrel⟩
    obtain ⟨k, e1, e2⟩ := h T kV doc pm an cdv ct us its ws l1 rT.length.symm l2
    refine BindsTo.of_looks fun M => ?_
    rw [e1]
    exact looks_items X lT oT (.of_pure e2)
end

/-! ### x == y by x's own method -/
def rEqO (C : Addr) (sp : Sp) (E : XK) (K : PySem.W.Frag) : R2 := fun x y H Q => ∃ (a dx : Addr) (fs : List (Str × V)) (t : Value), x = .ref a ∧ H a = some (.ins C dx fs) ∧ TyX K H y t ∧ PySem.W.notFirst K C t = true ∧ sp [.ref a, y] H (fun v H' => (∃ b, v = .bl b) ∧ Q v H') E
structure TyC (K : PySem.W.Frag) (C : Addr) : Prop where
  ha : PySem.W.findIn K (.ref C) "__class__" = some (some (.builtin "object.__class__"))
  hn : PySem.W.specialIn K (.builtin "object.__class__") "__get__" = some (some (.builtin "getset_descriptor.__get__"))
  ht : PySem.W.takesIn K (.builtin "object.__class__") = some true
  hm : PySem.W.mroIn K C (.type "object") = some true
theorem TyC.ins {K : PySem.W.Frag} {C : Addr} (t : TyC K C) (c : Cls K C) {H : Hp} {a dx : Addr} {fs : List (Str × V)} (h : H a = some (.ins C dx fs)) : ∀ H1, Ex H H1 → TyX K H1 (.ref a) (.ref C) := fun H1 e => .base (.ins (e _ _ h) c t.ha t.hn t.ht t.hm)
/-- isinstance(x, C), C an own class -/
theorem ev_isiO {K : PySem.W.Frag} {σ : L2.St} {H : Hp} {ta : TE} {x : V} {t : Value} {C : Addr} {b : Bool} (ha : Ev ta σ H x) (ht : ∀ H1, Ex H H1 → TyX K H1 x t) (hk : PySem.W.kitOne K t (.ref C) = some b) : Ev (tCB (rIsi K) (tCons ta (tCons (tC (.ref C)) tNil))) σ H (.bl b) :=
  ev_cb (ea_cons ha (ea_cons ev_c ea_nil)) fun H1 e Q q => ⟨x, .ref C, t, _, b, rfl, .own C, ht H1 e, hk, q H1 (Ex.refl H1)⟩
theorem ev_eqO {K : PySem.W.Frag} {σ : L2.St} {H : Hp} {ta tb : TE} {C a dx : Addr} {fs : List (Str × V)} {y : V} {t : Value} {sp : Sp} {E : XK} {b : Bool} (ha : Ev ta σ H (.ref a)) (hx : H a = some (.ins C dx fs)) (hb : Ev tb σ H y) (ht : ∀ H1, Ex H H1 → TyX K H1 y t) (hn : PySem.W.notFirst K C t = true) (hs : SpV sp [.ref a, y] H (.bl b)) : Ev (tOp (rEqO C sp E K) ta tb) σ H (.bl b) := fun H1 e Q q =>
  ha H1 e _ fun H2 e2 => hb H2 (e.trans e2) _ fun H3 e3 => ⟨a, dx, fs, t, rfl, ((e.trans e2).trans e3) _ _ hx, ht H3 ((e.trans e2).trans e3), hn, hs H3 ((e.trans e2).trans e3) _ (fun H4 e4 => ⟨⟨b, rfl⟩, q H4 ((e2.trans e3).trans e4)⟩) E⟩
theorem op_eqO {X : Cx} {CX : CXT} {C f : Addr} {fd : FuncData} {ps : List Str} {sp : Sp} {E : XK} {n : Nat} (F : FnOk X.prog X.w X.K X.mg X.base CX n f fd ps sp) (hs : PySem.W.findIn X.K (.ref C) "__eq__" = some (some (.ref f))) (hf : PySem.W.isFn X.K (.ref f) = true)
    (hb : Binds X.K fd ps []) (hx : Passes CX X E) (hr : Room n X.A) : OpR X (compareOp .Eq) (rEqO C sp E X.K) := by
  intro pins s σ H x y v u Q I rx ry hq
  obtain ⟨a, dx, fs, t, rfl, ha, ty, hn, hsp⟩ := hq
  cases rx
  obtain ⟨mA, J, _⟩ := ins_get I.hok ha
  obtain ⟨od, J, _⟩ := J.look
  obtain ⟨Pt, Z, hP, _⟩ := kit_of I ry ty
  obtain ⟨m, hF⟩ := I.fr
  show wpAny (model X.prog X.w) X.A (richCompare .Eq (.ref a) u) (EP X pins σ Q) X.xe s
  refine PySem.W.cmp_K (op := .Eq) (tb := t) hr.units0 hF I.ok.mod.kin J (Z.ty _ _ I.kIn hP) hn hs hf ?_
  have hl := F.len _ _ _ _ hsp
  have r2 : Vals [V.ref a, y] [Value.ref a, u] := .cons rfl (.cons ry .nil)
  refine wpAny_call (codeAny_mono (F.run X.A X.stack s H ⟨[.ref a, u], []⟩ [.ref a, u] [.ref a, y] _ E hr I.env0 (by
    have := hb s [.ref a, u] I.kIn (by simpa using hl)
    simpa using this) r2 hsp) fun r s' hq => ?_)
  cases r with
  | error e => exact hx pins σ H s e s' I hq
  | ok fl =>
    cases fl with
    | ret w =>
      obtain ⟨z, H', I', rz, ⟨b, ez⟩, q⟩ := I.after hq
      subst ez
      cases rz
      exact ⟨.bl b, H', I', rfl, q⟩
    | next => exact False.elim hq
    | brk => exact False.elim hq
    | cont => exact False.elim hq
theorem kit_cls' {K : PySem.W.Frag} {C : Addr} {t : Value} (hd : PySem.W.hasDictIn K C = true) (ht : PySem.W.typeIn K (.ref C) = some (.type "type")) (hs : PySem.W.subIn K t (.ref C) = some false) (hn : (t == Value.ref C) = false) : PySem.W.kitOne K t (.ref C) = some false ∧ PySem.W.notFirst K C t = true := by
  obtain ⟨cd, hc, _⟩ := PySem.W.any_some hd
  refine ⟨?_, ?_⟩
  · unfold PySem.W.kitOne PySem.W.kitCls
    rw [hn, if_neg (by decide)]
    show (if ((PySem.W.clsIn K C).isSome && PySem.W.typeIn K (.ref C) == some (.type "type")) = true then PySem.W.subIn K t (.ref C) else none) = _
    rw [hc, ht, if_pos (by simp), hs]
  · unfold PySem.W.notFirst
    rw [hs, hn]
    simp
theorem kit_ty {K : PySem.W.Frag} {C : Addr} {T : String} (hd : PySem.W.hasDictIn K C = true) (ht : PySem.W.typeIn K (.ref C) = some (.type "type")) (hs : PySem.W.subIn K (.type T) (.ref C) = some false) : PySem.W.kitOne K (.type T) (.ref C) = some false ∧ PySem.W.notFirst K C (.type T) = true := kit_cls' hd ht hs rfl
theorem kit_self {K : PySem.W.Frag} {C : Addr} : PySem.W.kitOne K (.ref C) (.ref C) = some true ∧ PySem.W.notFirst K C (.ref C) = true := by
  refine ⟨?_, ?_⟩
  · unfold PySem.W.kitOne
    rw [if_pos (by simp)]
  · unfold PySem.W.notFirst
    simp
theorem kit_ref {K : PySem.W.Frag} {C D : Addr} (hd : PySem.W.hasDictIn K C = true) (ht : PySem.W.typeIn K (.ref C) = some (.type "type")) (hz : PySem.W.subIn K (.ref C) (.ref C) = some true) (hs : PySem.W.subIn K (.ref D) (.ref C) = some false) : PySem.W.kitOne K (.ref D) (.ref C) = some false ∧ PySem.W.notFirst K C (.ref D) = true :=
  kit_cls' hd ht hs (by
    cases h : (Value.ref D == Value.ref C) with
    | false => rfl
    | true =>
      have e := eq_of_beq h
      injection e with e
      subst e
      rw [hz] at hs
      cases hs)

/-- what the top has left -/
structure TX (K : PySem.W.Frag) (mg : Str → Option Value) where
  a_BitWriter_init : Addr
  d_BitWriter_init : FuncData
  F_BitWriter_init : Fun K "__init__" "BitWriter.__init__" s_BitWriter_init a_BitWriter_init d_BitWriter_init
  b_BitWriter_init : Binds K d_BitWriter_init ["self"] []
  a_BitWriter_write : Addr
  d_BitWriter_write : FuncData
  F_BitWriter_write : Fun K "write" "BitWriter.write" s_BitWriter_write a_BitWriter_write d_BitWriter_write
  b_BitWriter_write : Binds K d_BitWriter_write ["self", "width", "value"] []
  a_BitWriter_append_bytes : Addr
  d_BitWriter_append_bytes : FuncData
  F_BitWriter_append_bytes : Fun K "append_bytes" "BitWriter.append_bytes" s_BitWriter_append_bytes a_BitWriter_append_bytes d_BitWriter_append_bytes
  b_BitWriter_append_bytes : Binds K d_BitWriter_append_bytes ["self", "data"] []
  a_BitWriter_byte_list : Addr
  d_BitWriter_byte_list : FuncData
  F_BitWriter_byte_list : Fun K "byte_list" "BitWriter.byte_list" s_BitWriter_byte_list a_BitWriter_byte_list d_BitWriter_byte_list
  b_BitWriter_byte_list : Binds K d_BitWriter_byte_list ["self"] []
  a_BitReader_init : Addr
  d_BitReader_init : FuncData
  F_BitReader_init : FunD K "__init__" "BitReader.__init__" (defArgs s_BitReader_init) (defBody s_BitReader_init) (defScope s_BitReader_init) [V.int 0] [] a_BitReader_init d_BitReader_init
  e3_BitReader_init : List Value
  v3_BitReader_init : Vals [] e3_BitReader_init
  b3_BitReader_init : Binds K d_BitReader_init ["self", "data", "at"] e3_BitReader_init
  a_BitReader_read : Addr
  d_BitReader_read : FuncData
  F_BitReader_read : Fun K "read" "BitReader.read" s_BitReader_read a_BitReader_read d_BitReader_read
  b_BitReader_read : Binds K d_BitReader_read ["self", "width"] []
  a_BitReader_since : Addr
  d_BitReader_since : FuncData
  F_BitReader_since : Fun K "since" "BitReader.since" s_BitReader_since a_BitReader_since d_BitReader_since
  b_BitReader_since : Binds K d_BitReader_since ["self", "place"] []
  a_BitReader_move_to : Addr
  d_BitReader_move_to : FuncData
  F_BitReader_move_to : Fun K "move_to" "BitReader.move_to" s_BitReader_move_to a_BitReader_move_to d_BitReader_move_to
  b_BitReader_move_to : Binds K d_BitReader_move_to ["self", "bit_place"] []
  a_BitReader_byte_place : Addr
  d_BitReader_byte_place : FuncData
  F_BitReader_byte_place : Fun K "byte_place" "BitReader.byte_place" s_BitReader_byte_place a_BitReader_byte_place d_BitReader_byte_place
  b_BitReader_byte_place : Binds K d_BitReader_byte_place ["self"] []
  a_BitReader_bit_place : Addr
  d_BitReader_bit_place : FuncData
  F_BitReader_bit_place : Fun K "bit_place" "BitReader.bit_place" s_BitReader_bit_place a_BitReader_bit_place d_BitReader_bit_place
  b_BitReader_bit_place : Binds K d_BitReader_bit_place ["self"] []
  a_crc8 : Addr
  d_crc8 : FuncData
  F_crc8 : FunD K "crc8" "crc8" (defArgs s_crc8) (defBody s_crc8) (defScope s_crc8) [V.int 0] [] a_crc8 d_crc8
  e1_crc8 : List Value
  v1_crc8 : Vals [V.int 0] e1_crc8
  b1_crc8 : Binds K d_crc8 ["data", "start"] e1_crc8
  g_crc8 : mg "crc8" = some (.ref a_crc8)
  a_divided : Addr
  d_divided : FuncData
  F_divided : Fun K "_divided" "_divided" s_divided a_divided d_divided
  b_divided : Binds K d_divided ["data", "start", "width", "steps"] []
  g_divided : mg "_divided" = some (.ref a_divided)
  a_write_number : Addr
  d_write_number : FuncData
  F_write_number : Fun K "write_number" "write_number" s_write_number a_write_number d_write_number
  b_write_number : Binds K d_write_number ["number"] []
  g_write_number : mg "write_number" = some (.ref a_write_number)
  a_read_number : Addr
  d_read_number : FuncData
  F_read_number : Fun K "read_number" "read_number" s_read_number a_read_number d_read_number
  b_read_number : Binds K d_read_number ["reader"] []
  g_read_number : mg "read_number" = some (.ref a_read_number)
  a_number_ahead : Addr
  d_number_ahead : FuncData
  F_number_ahead : Fun K "_number_ahead" "_number_ahead" s_number_ahead a_number_ahead d_number_ahead
  b_number_ahead : Binds K d_number_ahead ["reader"] []
  g_number_ahead : mg "_number_ahead" = some (.ref a_number_ahead)
  a_further_bits : Addr
  d_further_bits : FuncData
  F_further_bits : Fun K "_further_bits" "_further_bits" s_further_bits a_further_bits d_further_bits
  b_further_bits : Binds K d_further_bits ["reader"] []
  g_further_bits : mg "_further_bits" = some (.ref a_further_bits)
  a_bound : Addr
  d_bound : FuncData
  F_bound : Fun K "_bound" "_bound" s_bound a_bound d_bound
  b_bound : Binds K d_bound ["count"] []
  g_bound : mg "_bound" = some (.ref a_bound)
  a_least_first : Addr
  d_least_first : FuncData
  F_least_first : Fun K "_least_first" "_least_first" s_least_first a_least_first d_least_first
  b_least_first : Binds K d_least_first ["count"] []
  g_least_first : mg "_least_first" = some (.ref a_least_first)
  a_count_told : Addr
  d_count_told : FuncData
  F_count_told : Fun K "_count_told" "_count_told" s_count_told a_count_told d_count_told
  b_count_told : Binds K d_count_told ["first"] []
  g_count_told : mg "_count_told" = some (.ref a_count_told)
  a_FrameHeader_init : Addr
  d_FrameHeader_init : FuncData
  F_FrameHeader_init : FunD K "__init__" "FrameHeader.__init__" (defArgs s_FrameHeader_init) (defBody s_FrameHeader_init) (defScope s_FrameHeader_init) [] [] a_FrameHeader_init d_FrameHeader_init
  k1_variable_block_size_rate_channels_assignment_depth_number_FrameHeader_init : KBn K d_FrameHeader_init ["self", "variable", "block_size", "rate", "channels", "assignment", "depth", "number"] 1 ["variable", "block_size", "rate", "channels", "assignment", "depth", "number"] (fun us ws => us ++ ws) (fun us ws => us ++ ws)
  a_FrameHeader_eq : Addr
  d_FrameHeader_eq : FuncData
  F_FrameHeader_eq : Fun K "__eq__" "FrameHeader.__eq__" s_FrameHeader_eq a_FrameHeader_eq d_FrameHeader_eq
  b_FrameHeader_eq : Binds K d_FrameHeader_eq ["self", "other"] []
  a_write_header : Addr
  d_write_header : FuncData
  F_write_header : Fun K "write_header" "write_header" s_write_header a_write_header d_write_header
  b_write_header : Binds K d_write_header ["header"] []
  g_write_header : mg "write_header" = some (.ref a_write_header)
  a_read_header : Addr
  d_read_header : FuncData
  F_read_header : Fun K "read_header" "read_header" s_read_header a_read_header d_read_header
  b_read_header : Binds K d_read_header ["reader", "rate", "depth"] []
  g_read_header : mg "read_header" = some (.ref a_read_header)
  a_header_bytes : Addr
  d_header_bytes : FuncData
  F_header_bytes : Fun K "header_bytes" "header_bytes" s_header_bytes a_header_bytes d_header_bytes
  b_header_bytes : Binds K d_header_bytes ["header"] []
  g_header_bytes : mg "header_bytes" = some (.ref a_header_bytes)
  a_size_code : Addr
  d_size_code : FuncData
  F_size_code : Fun K "_size_code" "_size_code" s_size_code a_size_code d_size_code
  b_size_code : Binds K d_size_code ["block_size"] []
  g_size_code : mg "_size_code" = some (.ref a_size_code)
  a_rate_code : Addr
  d_rate_code : FuncData
  F_rate_code : Fun K "_rate_code" "_rate_code" s_rate_code a_rate_code d_rate_code
  b_rate_code : Binds K d_rate_code ["rate"] []
  g_rate_code : mg "_rate_code" = some (.ref a_rate_code)
  a_channel_code : Addr
  d_channel_code : FuncData
  F_channel_code : Fun K "_channel_code" "_channel_code" s_channel_code a_channel_code d_channel_code
  b_channel_code : Binds K d_channel_code ["header"] []
  g_channel_code : mg "_channel_code" = some (.ref a_channel_code)
  a_depth_code : Addr
  d_depth_code : FuncData
  F_depth_code : Fun K "_depth_code" "_depth_code" s_depth_code a_depth_code d_depth_code
  b_depth_code : Binds K d_depth_code ["depth"] []
  g_depth_code : mg "_depth_code" = some (.ref a_depth_code)
  a_write_block_size : Addr
  d_write_block_size : FuncData
  F_write_block_size : Fun K "_write_block_size" "_write_block_size" s_write_block_size a_write_block_size d_write_block_size
  b_write_block_size : Binds K d_write_block_size ["writer", "code", "block_size"] []
  g_write_block_size : mg "_write_block_size" = some (.ref a_write_block_size)
  a_write_rate : Addr
  d_write_rate : FuncData
  F_write_rate : Fun K "_write_rate" "_write_rate" s_write_rate a_write_rate d_write_rate
  b_write_rate : Binds K d_write_rate ["writer", "code", "rate"] []
  g_write_rate : mg "_write_rate" = some (.ref a_write_rate)
  a_read_sync : Addr
  d_read_sync : FuncData
  F_read_sync : Fun K "_read_sync" "_read_sync" s_read_sync a_read_sync d_read_sync
  b_read_sync : Binds K d_read_sync ["reader"] []
  g_read_sync : mg "_read_sync" = some (.ref a_read_sync)
  a_read_size_code : Addr
  d_read_size_code : FuncData
  F_read_size_code : Fun K "_read_size_code" "_read_size_code" s_read_size_code a_read_size_code d_read_size_code
  b_read_size_code : Binds K d_read_size_code ["reader"] []
  g_read_size_code : mg "_read_size_code" = some (.ref a_read_size_code)
  a_read_rate_code : Addr
  d_read_rate_code : FuncData
  F_read_rate_code : Fun K "_read_rate_code" "_read_rate_code" s_read_rate_code a_read_rate_code d_read_rate_code
  b_read_rate_code : Binds K d_read_rate_code ["reader"] []
  g_read_rate_code : mg "_read_rate_code" = some (.ref a_read_rate_code)
  a_read_channels : Addr
  d_read_channels : FuncData
  F_read_channels : Fun K "_read_channels" "_read_channels" s_read_channels a_read_channels d_read_channels
  b_read_channels : Binds K d_read_channels ["reader"] []
  g_read_channels : mg "_read_channels" = some (.ref a_read_channels)
  a_read_depth : Addr
  d_read_depth : FuncData
  F_read_depth : Fun K "_read_depth" "_read_depth" s_read_depth a_read_depth d_read_depth
  b_read_depth : Binds K d_read_depth ["reader", "depth"] []
  g_read_depth : mg "_read_depth" = some (.ref a_read_depth)
  a_read_zero_bit : Addr
  d_read_zero_bit : FuncData
  F_read_zero_bit : Fun K "_read_zero_bit" "_read_zero_bit" s_read_zero_bit a_read_zero_bit d_read_zero_bit
  b_read_zero_bit : Binds K d_read_zero_bit ["reader"] []
  g_read_zero_bit : mg "_read_zero_bit" = some (.ref a_read_zero_bit)
  a_read_frame_number : Addr
  d_read_frame_number : FuncData
  F_read_frame_number : Fun K "_read_frame_number" "_read_frame_number" s_read_frame_number a_read_frame_number d_read_frame_number
  b_read_frame_number : Binds K d_read_frame_number ["reader", "variable"] []
  g_read_frame_number : mg "_read_frame_number" = some (.ref a_read_frame_number)
  a_read_block_size : Addr
  d_read_block_size : FuncData
  F_read_block_size : Fun K "_read_block_size" "_read_block_size" s_read_block_size a_read_block_size d_read_block_size
  b_read_block_size : Binds K d_read_block_size ["reader", "code"] []
  g_read_block_size : mg "_read_block_size" = some (.ref a_read_block_size)
  a_read_rate : Addr
  d_read_rate : FuncData
  F_read_rate : Fun K "_read_rate" "_read_rate" s_read_rate a_read_rate d_read_rate
  b_read_rate : Binds K d_read_rate ["reader", "code", "rate"] []
  g_read_rate : mg "_read_rate" = some (.ref a_read_rate)
  a_read_checksum : Addr
  d_read_checksum : FuncData
  F_read_checksum : Fun K "_read_checksum" "_read_checksum" s_read_checksum a_read_checksum d_read_checksum
  b_read_checksum : Binds K d_read_checksum ["reader", "start"] []
  g_read_checksum : mg "_read_checksum" = some (.ref a_read_checksum)
  a_law_cell : Addr
  d_law_cell : FuncData
  F_law_cell : Fun K "_law_cell" "_law_cell" s_law_cell a_law_cell d_law_cell
  b_law_cell : Binds K d_law_cell ["script", "k"] []
  g_law_cell : mg "_law_cell" = some (.ref a_law_cell)
  a_law_number : Addr
  d_law_number : FuncData
  F_law_number : Fun K "_law_number" "_law_number" s_law_number a_law_number d_law_number
  b_law_number : Binds K d_law_number ["value"] []
  g_law_number : mg "_law_number" = some (.ref a_law_number)
  a_law_crc : Addr
  d_law_crc : FuncData
  F_law_crc : Fun K "_law_crc" "_law_crc" s_law_crc a_law_crc d_law_crc
  b_law_crc : Binds K d_law_crc ["data"] []
  g_law_crc : mg "_law_crc" = some (.ref a_law_crc)
  a_law_code : Addr
  d_law_code : FuncData
  F_law_code : Fun K "_law_code" "_law_code" s_law_code a_law_code d_law_code
  b_law_code : Binds K d_law_code ["table", "value"] []
  g_law_code : mg "_law_code" = some (.ref a_law_code)
  a_law_near : Addr
  d_law_near : FuncData
  F_law_near : Fun K "_law_near" "_law_near" s_law_near a_law_near d_law_near
  b_law_near : Binds K d_law_near ["cell", "table", "most"] []
  g_law_near : mg "_law_near" = some (.ref a_law_near)
  a_law_size_form : Addr
  d_law_size_form : FuncData
  F_law_size_form : Fun K "_law_size_form" "_law_size_form" s_law_size_form a_law_size_form d_law_size_form
  b_law_size_form : Binds K d_law_size_form ["size"] []
  g_law_size_form : mg "_law_size_form" = some (.ref a_law_size_form)
  a_law_rate_form : Addr
  d_law_rate_form : FuncData
  F_law_rate_form : Fun K "_law_rate_form" "_law_rate_form" s_law_rate_form a_law_rate_form d_law_rate_form
  b_law_rate_form : Binds K d_law_rate_form ["hertz"] []
  g_law_rate_form : mg "_law_rate_form" = some (.ref a_law_rate_form)
  a_law_due : Addr
  d_law_due : FuncData
  F_law_due : Fun K "_law_due" "_law_due" s_law_due a_law_due d_law_due
  b_law_due : Binds K d_law_due ["varies", "size", "hertz", "code", "deep", "index"] []
  g_law_due : mg "_law_due" = some (.ref a_law_due)
  a_law : Addr
  d_law : FuncData
  F_law : Fun K "law" "law" s_law a_law d_law
  b_law : Binds K d_law ["script"] []
  g_law : mg "law" = some (.ref a_law)
  C_BitWriter : Addr
  cl_BitWriter : Cls K C_BitWriter
  g_BitWriter : mg "BitWriter" = some (.ref C_BitWriter)
  M_BitWriter : Mk K C_BitWriter a_BitWriter_init
  me_BitWriter_write : Meth K C_BitWriter "write" a_BitWriter_write
  me_BitWriter_append_bytes : Meth K C_BitWriter "append_bytes" a_BitWriter_append_bytes
  me_BitWriter_byte_list : Meth K C_BitWriter "byte_list" a_BitWriter_byte_list
  n_BitWriter_whole : NoAttr K C_BitWriter "_whole"
  n_BitWriter_held : NoAttr K C_BitWriter "_held"
  n_BitWriter_held_bits : NoAttr K C_BitWriter "_held_bits"
  C_BitReader : Addr
  cl_BitReader : Cls K C_BitReader
  g_BitReader : mg "BitReader" = some (.ref C_BitReader)
  M_BitReader : Mk K C_BitReader a_BitReader_init
  me_BitReader_read : Meth K C_BitReader "read" a_BitReader_read
  me_BitReader_since : Meth K C_BitReader "since" a_BitReader_since
  me_BitReader_move_to : Meth K C_BitReader "move_to" a_BitReader_move_to
  me_BitReader_byte_place : Meth K C_BitReader "byte_place" a_BitReader_byte_place
  me_BitReader_bit_place : Meth K C_BitReader "bit_place" a_BitReader_bit_place
  n_BitReader_data : NoAttr K C_BitReader "_data"
  n_BitReader_position : NoAttr K C_BitReader "_position"
  C_FrameHeader : Addr
  cl_FrameHeader : Cls K C_FrameHeader
  g_FrameHeader : mg "FrameHeader" = some (.ref C_FrameHeader)
  M_FrameHeader : Mk K C_FrameHeader a_FrameHeader_init
  me_FrameHeader_eq : Meth K C_FrameHeader "__eq__" a_FrameHeader_eq
  n_FrameHeader_variable : NoAttr K C_FrameHeader "variable"
  n_FrameHeader_block_size : NoAttr K C_FrameHeader "block_size"
  n_FrameHeader_rate : NoAttr K C_FrameHeader "rate"
  n_FrameHeader_channels : NoAttr K C_FrameHeader "channels"
  n_FrameHeader_assignment : NoAttr K C_FrameHeader "assignment"
  n_FrameHeader_depth : NoAttr K C_FrameHeader "depth"
  n_FrameHeader_number : NoAttr K C_FrameHeader "number"
  ty_FrameHeader : TyC K C_FrameHeader
  ki_FrameHeader_FrameHeader : PySem.W.kitOne K (.ref C_FrameHeader) (.ref C_FrameHeader) = some true
  nf_FrameHeader_FrameHeader : PySem.W.notFirst K C_FrameHeader (.ref C_FrameHeader) = true
  C_MonochordError : Addr
  g_MonochordError : mg "MonochordError" = some (.ref C_MonochordError)
  m_list : mg "list" = none
  m_len : mg "len" = none
  m_range : mg "range" = none
  m_isinstance : mg "isinstance" = none
  m_int : mg "int" = none
  m_max : mg "max" = none
  m_min : mg "min" = none
  A_STEPS_8 : Addr
  c_STEPS_8 : mg "_STEPS_8" = some (.ref A_STEPS_8)
  s_STEPS_8 : ∀ H, SqT K H A_STEPS_8 [V.int 0, V.int 7, V.int 14, V.int 9, V.int 28, V.int 27, V.int 18, V.int 21, V.int 56, V.int 63, V.int 54, V.int 49, V.int 36, V.int 35, V.int 42, V.int 45]
  y_STEPS_8 : ∃ o, K.lookup A_STEPS_8 = some o ∧ o.cls = .type "tuple" ∧ o.dict = none
  u_SYNC_CODE : Value
  c_SYNC_CODE : mg "_SYNC_CODE" = some u_SYNC_CODE
  r_SYNC_CODE : RelV (.int (16382)) u_SYNC_CODE
  A_BLOCK_SIZES : Addr
  c_BLOCK_SIZES : mg "_BLOCK_SIZES" = some (.ref A_BLOCK_SIZES)
  s_BLOCK_SIZES : ∀ H, SqT K H A_BLOCK_SIZES [V.non, V.int 192, V.int 576, V.int 1152, V.int 2304, V.int 4608, V.non, V.non, V.int 256, V.int 512, V.int 1024, V.int 2048, V.int 4096, V.int 8192, V.int 16384, V.int 32768]
  y_BLOCK_SIZES : ∃ o, K.lookup A_BLOCK_SIZES = some o ∧ o.cls = .type "tuple" ∧ o.dict = none
  A_RATES : Addr
  c_RATES : mg "_RATES" = some (.ref A_RATES)
  s_RATES : ∀ H, SqT K H A_RATES [V.non, V.int 88200, V.int 176400, V.int 192000, V.int 8000, V.int 16000, V.int 22050, V.int 24000, V.int 32000, V.int 44100, V.int 48000, V.int 96000, V.non, V.non, V.non, V.non]
  y_RATES : ∃ o, K.lookup A_RATES = some o ∧ o.cls = .type "tuple" ∧ o.dict = none
  A_DEPTHS : Addr
  c_DEPTHS : mg "_DEPTHS" = some (.ref A_DEPTHS)
  s_DEPTHS : ∀ H, SqT K H A_DEPTHS [V.non, V.int 8, V.int 12, V.non, V.int 16, V.int 20, V.int 24, V.int 32]
  y_DEPTHS : ∃ o, K.lookup A_DEPTHS = some o ∧ o.cls = .type "tuple" ∧ o.dict = none
  A_STEREO : Addr
  c_STEREO : mg "_STEREO" = some (.ref A_STEREO)
  s_STEREO : ∀ H, SqT K H A_STEREO [V.str "left-side", V.str "side-right", V.str "mid-side"]
  y_STEREO : ∃ o, K.lookup A_STEREO = some o ∧ o.cls = .type "tuple" ∧ o.dict = none
  u_MOST_BLOCK_SIZE : Value
  c_MOST_BLOCK_SIZE : mg "_MOST_BLOCK_SIZE" = some u_MOST_BLOCK_SIZE
  r_MOST_BLOCK_SIZE : RelV (.int (65535)) u_MOST_BLOCK_SIZE
  u_MOST_FRAMES : Value
  c_MOST_FRAMES : mg "_MOST_FRAMES" = some u_MOST_FRAMES
  r_MOST_FRAMES : RelV (.int (2147483647)) u_MOST_FRAMES
  u_MOST_SAMPLES : Value
  c_MOST_SAMPLES : mg "_MOST_SAMPLES" = some u_MOST_SAMPLES
  r_MOST_SAMPLES : RelV (.int (68719476735)) u_MOST_SAMPLES
section
variable {P : Program} {w : World} {K : PySem.W.Frag} {mg : Str → Option Value} {base : Heap}
/-! ### int(x), bits of a number -/
theorem Ev.is {σ : L2.St} {H : Hp} {te : TE} {x y : V} (h : Ev te σ H x) (e : x = y) : Ev te σ H y := e ▸ h
theorem ev_int1 {σ : L2.St} {H : Hp} {te : TE} {i : Int} (h : Ev te σ H (.int i)) : Ev (tCB (fun xs H Q => (∃ i, xs = [V.int i] ∧ Q (V.int i) H) ∨ ∃ k, xs = [V.bl k] ∧ Q (V.int (if k = true then 1 else 0)) H) (tCons te tNil)) σ H (.int i) :=
  ev_cb (ea_cons h ea_nil) fun H1 _ Q q => .inl ⟨i, rfl, q H1 (Ex.refl H1)⟩
theorem q_augR {σ : L2.St} {H : Hp} {te : TE} {D : Ends} {tz : TS} {i : Nat} {g : Int → Int → V} {a b : Int} (h1 : σ[i]? = some (some (.int a))) (h : Ev te σ H (.int b)) (k : ∀ H1, Ex H H1 → tz D (σ.set i (some (g a b))) H1) : tSeq (tAug i te (rI0 g)) tz D σ H :=
  ⟨_, h1, h H (Ex.refl H) _ fun H1 e => ⟨a, b, rfl, rfl, k H1 e⟩⟩
theorem s_augR {σ : L2.St} {H : Hp} {te : TE} {D : Ends} {i : Nat} {g : Int → Int → V} {a b : Int} (h1 : σ[i]? = some (some (.int a))) (h : Ev te σ H (.int b)) (k : ∀ H1, Ex H H1 → D.nx (σ.set i (some (g a b))) H1) : tAug i te (rI0 g) D σ H :=
  ⟨_, h1, h H (Ex.refl H) _ fun H1 e => ⟨a, b, rfl, rfl, k H1 e⟩⟩
theorem ev_atT {K : PySem.W.Frag} {σ : L2.St} {H : Hp} {tl ti : TE} {t : Addr} {xs : List V} {n : Int} {v : V} (h : Ev tl σ H (.ref t)) (hT : SqT K H t xs) (hi : Ev ti σ H (.int n)) (ha : atI xs n = some v) : Ev (tOp (rIxT K) tl ti) σ H v := fun H1 e Q q =>
  h H1 e _ fun H2 e2 => hi H2 (e.trans e2) _ fun H3 e3 => ⟨t, xs, n, v, rfl, rfl, ex_t ((e.trans e2).trans e3) hT, ha, q H3 (e2.trans e3)⟩
local macro_rules | `(tactic| walk_at "side") => `(tactic| first
  | omega
  | (show CDivW _ _; exact ⟨by omega, by decide⟩)
  | (show CDivW _ _; exact wide_div (b := 80) (by omega) (by omega) (by decide) (by decide)))
local macro_rules | `(tactic| walk_at "evown") => `(tactic| (refine' ev_int1 ?h1; (case h1 => walk_at "ev")))
/-- numbers from 0 on, as such -/
def cs (ds : List Nat) : List Int := ds.map fun d : Nat => (d : Int)
theorem cs_of {ns : List Int} {b : Int} (h : ∀ n ∈ ns, 0 ≤ n ∧ n < b) : ∃ ds : List Nat, ns = cs ds ∧ ds.length = ns.length ∧ ∀ d ∈ ds, (d : Int) < b := by
  refine ⟨ns.map Int.toNat, ?_, List.length_map .., fun d hd => ?_⟩
  · unfold cs
    rw [List.map_map]
    conv => lhs; rw [← List.map_id ns]
    refine List.map_congr_left fun n hn => ?_
    have := (h n hn).1
    show n = ((n.toNat : Nat) : Int)
    omega
  · obtain ⟨n, hn, rfl⟩ := List.mem_map.mp hd
    have := h n hn
    omega
theorem cs_len (ds : List Nat) : (cs ds).length = ds.length := List.length_map ..
theorem cs_at {ds : List Nat} {i : Nat} {d : Nat} (h : ds[i]? = some d) : (cs ds)[i]? = some (d : Int) := by unfold cs; rw [List.getElem?_map, h]; rfl
theorem cs_take (ds : List Nat) (i : Nat) : (cs ds).take i = cs (ds.take i) := by unfold cs; rw [List.map_take]
theorem cs_drop (ds : List Nat) (i : Nat) : (cs ds).drop i = cs (ds.drop i) := by unfold cs; rw [List.map_drop]
theorem cs_append (ds es : List Nat) : cs (ds ++ es) = cs ds ++ cs es := List.map_append ..

def sp_cell (K : PySem.W.Frag) : Sp := fun vs H Q _ => ∃ (a : Addr) (ns : List Int) (k : Int), vs = [.ref a, .int k] ∧ SqL K H a (ns.map V.int) ∧ 0 ≤ k ∧ RetV (.int (cellI ns k)) H Q
theorem ok_law_cell (T : TX K mg) : FnOk P w K mg base CX0 1 T.a_law_cell T.d_law_cell ["script", "k"] (sp_cell K) := by
  refine T.F_law_cell.ok sc_law_cell (fun vs H Q E h => by obtain ⟨a, ns, k, rfl, _⟩ := h; rfl) (fun cdv A outer s H vs Q E hr h => ?_)
  obtain ⟨a, ns, k, rfl, hS, hk, q⟩ := h
  refine ⟨_, (pss_cons (ps_if (pt_cmpR op_lt (pv 1) (pe_callB (r := rLenS K) call_len_seq (by rfl) T.m_len PySem.boot_len (pa_cons (pv 0) pa_nil)) (nomark _)) (pss_one (ps_ret (pe_callTy call_int1 (by rfl) T.m_int PyProof.Rows.boot_int (pa_cons (pe_ix (r := rIxL K) ix_list (pv 0) (pv 1) (fun _ _ => rfl)) pa_nil)))) pss_nil)
      (pss_one (ps_ret pe_int))), ?_⟩
  have hl := (ev_lenS (K := K) (Ev.s (te := tVar 0) (σ := start ["script", "k"] [.ref a, .int k]) (ev_var rfl) hS))
  refine q_when (et_test (ev_I0 (ev_var rfl) hl)) ?_ ?_
  · intro hb H1 e1
    have hb : k < ns.length := by
      have := of_decide_eq_true hb
      rwa [List.length_map] at this
    refine s_ret (v := .int (cellI ns k)) (ev_int1 (ev_ixS (i := 0) (n := k) (Ev.s (ev_var rfl) (ex_l e1 hS)) (ev_var rfl) ?_)) fun H2 e2 => q H2 (e1.trans e2)
    exact at_of (j := k.toNat) (by omega) (at_int (cellI_in hk hb))
  · intro hb H1 e1
    have hb : ¬ k < ns.length := by
      have := of_decide_eq_false hb
      rwa [List.length_map] at this
    walk_at "ret"
    intro H2 e2
    exact ret_eq q (e1.trans e2) (by rw [cellI_out hb])
theorem ev_cell {σ : L2.St} {H : Hp} {ta tk : TE} {E : XK} {ns : List Int} {k : Int} {a : Addr} (ha : Ev ta σ H (.ref a)) (hS : SqL K H a (ns.map V.int)) (hk : Ev tk σ H (.int k)) (h0 : 0 ≤ k) : Ev (tCall (sp_cell K) [] E (tCons ta (tCons tk tNil))) σ H (.int (cellI ns k)) :=
  ev_call (ea_cons ha (ea_cons hk ea_nil)) fun H1 e Q q _ => ⟨a, ns, k, rfl, ex_l e hS, h0, q⟩

/-! ### objects: fields, methods, making -/
section
variable {K : PySem.W.Frag} {σ : L2.St} {H : Hp} {to te tv : TE} {a C : Addr} {dx : Addr} {fs : List (Str × V)} {f m : Str} {v : V} {D : Ends} {tz : TS} {sp : Sp} {dvs vs : List V} {E : XK} {t : TA}
theorem ev_fld (c : Cls K C) (hn : NoAttr K C f) (h : Ev to σ H (.ref a)) (hx : H a = some (.ins C dx fs)) (hl : fs.lookup f = some v) : Ev (tFld K to f) σ H v := fun H1 e Q q => h H1 e _ fun H2 e2 => ⟨a, C, dx, fs, v, rfl, (e.trans e2) _ _ hx, c, hn, hl, q H2 e2⟩
theorem q_fld (c : Cls K C) (hn : NoAttr K C f) (hv : Ev tv σ H v) (h : Ev to σ H (.ref a)) (hx : H a = some (.ins C dx fs)) (hl : fs.length < 1000) (k : ∀ H1, Ex H H1 → tz D σ (upd H1 a (.ins C dx (putF f v fs)))) : tSeq (sFld K to tv f) tz D σ H :=
  hv H (Ex.refl H) _ fun H1 e1 => h H1 e1 _ fun H2 e2 => ⟨a, C, dx, fs, rfl, (e1.trans e2) _ _ hx, c, hn, hl, k H2 (e1.trans e2)⟩
theorem s_fld (c : Cls K C) (hn : NoAttr K C f) (hv : Ev tv σ H v) (h : Ev to σ H (.ref a)) (hx : H a = some (.ins C dx fs)) (hl : fs.length < 1000) (k : ∀ H1, Ex H H1 → D.nx σ (upd H1 a (.ins C dx (putF f v fs)))) : sFld K to tv f D σ H :=
  hv H (Ex.refl H) _ fun H1 e1 => h H1 e1 _ fun H2 e2 => ⟨a, C, dx, fs, rfl, (e1.trans e2) _ _ hx, c, hn, hl, k H2 (e1.trans e2)⟩
theorem q_fldL {xs : List V} (c : Cls K C) (hn : NoAttr K C f) (hv : EvL tv σ H xs) (h : ∀ H1, Ex H H1 → Ev to σ H1 (.ref a)) (hx : H a = some (.ins C dx fs)) (hl : fs.length < 1000) (k : ∀ p H1, H p = none → Ex H H1 → H1 p = some (.lst xs) → tz D σ (upd H1 a (.ins C dx (putF f (.ref p) fs)))) : tSeq (sFld K to tv f) tz D σ H :=
  hv H (Ex.refl H) _ fun p H1 hp e1 g1 => h H1 e1 H1 (Ex.refl H1) _ fun H2 e2 => ⟨a, C, dx, fs, rfl, (e1.trans e2) _ _ hx, c, hn, hl, k p H2 hp (e1.trans e2) (e2 _ _ g1)⟩
/-- o.m(..), whatever m promises -/
theorem mth (h : Ev to σ H (.ref a)) (hx : H a = some (.ins C dx fs)) (hm : fs.lookup m = none) (ha : EvA t σ H vs) {Q : VK} (k : ∀ H1, Ex H H1 → sp (.ref a :: (vs ++ dvs)) H1 Q E) : tMeth C m sp dvs E to t σ H Q :=
  h H (Ex.refl H) _ fun H1 e1 => ⟨a, dx, fs, rfl, e1 _ _ hx, hm, ha H1 e1 _ fun H2 e2 => k H2 (e1.trans e2)⟩
theorem q_dropM (h : Ev to σ H (.ref a)) (hx : H a = some (.ins C dx fs)) (hm : fs.lookup m = none) (ha : EvA t σ H vs) (k : ∀ H1, Ex H H1 → sp (.ref a :: (vs ++ dvs)) H1 (fun _ H2 => tz D σ H2) E) : tSeq (tDrop (tMeth C m sp dvs E to t)) tz D σ H := mth h hx hm ha k
theorem s_dropM (h : Ev to σ H (.ref a)) (hx : H a = some (.ins C dx fs)) (hm : fs.lookup m = none) (ha : EvA t σ H vs) (k : ∀ H1, Ex H H1 → sp (.ref a :: (vs ++ dvs)) H1 (fun _ H2 => D.nx σ H2) E) : tDrop (tMeth C m sp dvs E to t) D σ H := mth h hx hm ha k
theorem q_asgM {i : Nat} (h : Ev to σ H (.ref a)) (hx : H a = some (.ins C dx fs)) (hm : fs.lookup m = none) (ha : EvA t σ H vs) (k : ∀ H1, Ex H H1 → sp (.ref a :: (vs ++ dvs)) H1 (fun x H2 => tz D (σ.set i (some x)) H2) E) : tSeq (tAsg (tMeth C m sp dvs E to t) (gName i)) tz D σ H := mth h hx hm ha k
theorem s_retM (h : Ev to σ H (.ref a)) (hx : H a = some (.ins C dx fs)) (hm : fs.lookup m = none) (ha : EvA t σ H vs) (k : ∀ H1, Ex H H1 → sp (.ref a :: (vs ++ dvs)) H1 D.rt E) : tRet (tMeth C m sp dvs E to t) D σ H := mth h hx hm ha k
/-- a method that changes nothing and gives a value -/
theorem ev_mth (h : Ev to σ H (.ref a)) (hx : H a = some (.ins C dx fs)) (hm : fs.lookup m = none) (ha : EvA t σ H vs) (k : SpV sp (.ref a :: (vs ++ dvs)) H v) : Ev (tMeth C m sp dvs E to t) σ H v := fun H1 e Q q =>
  h H1 e _ fun H2 e2 => ⟨a, dx, fs, rfl, (e.trans e2) _ _ hx, hm, ha H2 (e.trans e2) _ fun H3 e3 => k H3 ((e.trans e2).trans e3) Q (fun H4 e4 => q H4 ((e2.trans e3).trans e4)) E⟩
end
theorem fresh_ne {H : Hp} {p q : Addr} {o : HO} (hp : H p = none) (hq : H q = some o) : q ≠ p := ne_of_none hq hp
theorem bitNot_eq (x : Int) : Builtin.bitNot x = -x - 1 := rfl
theorem bitAnd_maskZ (x : Int) (k : Nat) : Builtin.bitAnd x (2 ^ k - 1) = x % 2 ^ k := by
  by_cases h : 0 ≤ x
  · exact _root_.Bits.bitAnd_mask k h
  · have hp : (1 : Int) ≤ 2 ^ k := by
      have : 0 < 2 ^ k := Nat.two_pow_pos k
      have h2 : ((2 : Int) ^ k) = ((2 ^ k : Nat) : Int) := by rw [Int.natCast_pow]; rfl
      omega
    rw [PyProof.Rows.bitAnd_np h (by omega), Nat.and_comm]
    have h2 : ((2 : Int) ^ k) = ((2 ^ k : Nat) : Int) := by rw [Int.natCast_pow]; rfl
    have h3 : ((2 : Int) ^ k - 1).toNat = 2 ^ k - 1 := by omega
    rw [h3, Nat.and_two_pow_sub_one_eq_mod, bitNot_eq]
    have h4 : ((-x - 1).toNat : Int) = -x - 1 := by omega
    rw [h2, Int.natCast_emod, h4]
    generalize 2 ^ k = m at *
    have hm : (0 : Int) < (m : Int) := by omega
    have e1 := Int.emod_add_mul_ediv x m
    have e2 := Int.emod_add_mul_ediv (-x - 1) m
    have a1 := Int.emod_nonneg x (by omega : (m : Int) ≠ 0)
    have a2 := Int.emod_lt_of_pos x hm
    have b1 := Int.emod_nonneg (-x - 1) (by omega : (m : Int) ≠ 0)
    have b2 := Int.emod_lt_of_pos (-x - 1) hm
    generalize x % (m : Int) = r at *
    generalize (-x - 1) % (m : Int) = s at *
    generalize x / (m : Int) = p at *
    generalize (-x - 1) / (m : Int) = q at *
    -- r + s + 1 is a multiple of m between 1 and 2m - 1
    have e3 : r + s + 1 = m * (-(p + q)) := by
      rw [Int.mul_neg, Int.mul_add]
      omega
    have h5 : -(p + q) = 1 := by
      have c1 : 0 < (m : Int) * (-(p + q)) := by omega
      have c2 : (m : Int) * (-(p + q)) < m * 2 := by omega
      have c3 := Int.pos_of_mul_pos_right (a := (m : Int)) (b := -(p + q)) (by exact c1) hm
      have c4 : -(p + q) < 2 := Int.lt_of_mul_lt_mul_left c2 (by omega)
      omega
    rw [h5, Int.mul_one] at e3
    omega
theorem q_fldaugI {K : PySem.W.Frag} {σ : L2.St} {H : Hp} {to tv : TE} {a C dx : Addr} {fs : List (Str × V)} {f : Str} {i j : Int} {D : Ends} {tz : TS} (c : Cls K C) (hn : NoAttr K C f) (h : Ev to σ H (.ref a)) (hx : H a = some (.ins C dx fs)) (hl : fs.lookup f = some (.int i)) (hv : Ev tv σ H (.int j)) (hz : fs.length < 1000)
    (k : ∀ H1, Ex H H1 → tz D σ (upd H1 a (.ins C dx (putF f (.int (i + j)) fs)))) : tSeq (sFldAug K to tv rAdd f) tz D σ H :=
  h H (Ex.refl H) _ fun H1 e1 => ⟨a, C, dx, fs, .int i, rfl, e1 _ _ hx, c, hn, hl, hv H1 e1 _ fun H2 e2 => ⟨i, j, rfl, rfl, dx, fs, (e1.trans e2) _ _ hx, hz, k H2 (e1.trans e2)⟩⟩
/-- [e for j in range(n)] whose element changes objects -/
theorem tlc_rngM {ta : TA} {te : TE} {vs : List Nat} {n : Int} {j : Nat} {σ : L2.St} {H : Hp} {Q : VK} (h : EvA ta σ H [.int n]) (hn : -100000 ≤ n ∧ n ≤ 100000)
    (k : ∀ H1, Ex H H1 → ∀ Dl, H1 Dl = none → ∃ Pv : Nat → Hp → Prop, Pv 0 (upd H1 Dl (.lst [])) ∧ (∀ (i : Nat) H', i < n.toNat → Pv i H' → wipe ((wipe σ vs).set j (some (.int (i : Int)))) vs = wipe σ vs ∧ te ((wipe σ vs).set j (some (.int (i : Int)))) H' fun y H4 => ∃ acc, H4 Dl = some (.lst acc) ∧ acc.length < sizeLine ∧ Pv (i + 1) (upd H4 Dl (.lst (acc ++ [y])))) ∧ (∀ H', Pv n.toNat H' → Q (.ref Dl) H')) :
    tLc (iRng1 ta) (gName j) tYes te vs σ H Q := h H (Ex.refl H) _ fun H1 e1 => ⟨n, rfl, by omega, by omega, fun Dl hD => by
  obtain ⟨Pv, h0, hs, hd⟩ := k H1 e1 Dl hD
  refine lc_range (lo := 0) (n := n.toNat) Pv h0 (fun i H' hi p => ?_) hd
  rw [Int.zero_add]
  exact hs i H' hi p⟩

/-! ### objects that are made once -/
def FrO (a : Addr) (H H' : Hp) : Prop := ∀ b o, b ≠ a → H b = some o → H' b = some o
theorem FrO.ex {a : Addr} {H H' : Hp} (e : Ex H H') : FrO a H H' := fun b o _ h => e b o h
theorem FrO.trans {a : Addr} {H H1 H2 : Hp} (x : FrO a H H1) (y : FrO a H1 H2) : FrO a H H2 := fun b o hb h => y b o hb (x b o hb h)
theorem FrO.upd {a : Addr} {H H' : Hp} {o : HO} (f : FrO a H H') : FrO a H (upd H' a o) := fun b u hb h => by rw [upd_ne hb]; exact f b u hb h
def EvN (te : TE) (σ : L2.St) (H : Hp) (R : Addr → Hp → Prop) : Prop := ∀ H1, Ex H H1 → ∀ Q : VK, (∀ p H2, H1 p = none → Ex H1 H2 → R p H2 → Q (.ref p) H2) → te σ H1 Q
section
variable {K : PySem.W.Frag} {σ : L2.St} {H : Hp} {te ta tb : TE} {C : Addr} {sp : Sp} {dvs vs zs : List V} {E : XK} {t tk : TA} {R : Addr → Hp → Prop} {D : Ends} {tz : TS} {n m i : Nat} {gV : List V → List V → List V}
theorem en_make (h : EvA t σ H vs) (k : ∀ a dx H1 (Q : VK) (E : XK), Ex H H1 → H1 a = some (.ins C dx []) → (∀ H', FrO a H1 H' → R a H' → Q .non H') → sp (.ref a :: (vs ++ dvs)) H1 Q E) : EvN (tMake C sp dvs E t) σ H R := fun H1 e Q q =>
  h H1 e _ fun H2 e2 => fun x dx hx hdx hne => k x dx _ _ _ ((e.trans e2).trans (Ex.mut (Ex.new hdx) hx)) upd_same fun H' hF hR => ⟨rfl, q x H' (fresh_back e2 hx) (fun b o hb => hF b o (fresh_ne hx (e2 b o hb)) ((Ex.mut (Ex.new hdx) hx) b o (e2 b o hb))) hR⟩
theorem en_makeK (h : EvA t σ H vs) (hz : EvA tk σ H zs) (l1 : vs.length = n) (l2 : zs.length = m) (k : ∀ a dx H1 (Q : VK) (E : XK), Ex H H1 → H1 a = some (.ins C dx []) → (∀ H', FrO a H1 H' → R a H' → Q .non H') → sp (gV (.ref a :: vs) zs) H1 Q E) : EvN (tMakeK C n m sp gV E t tk) σ H R := fun H1 e Q q =>
  h H1 e _ fun H2 e2 => hz H2 (e.trans e2) _ fun H3 e3 => ⟨l1, l2, fun x dx hx hdx hne => k x dx _ _ _ (((e.trans e2).trans e3).trans (Ex.mut (Ex.new hdx) hx)) upd_same fun H' hF hR => ⟨rfl, q x H' (fresh_back (e2.trans e3) hx) (fun b o hb => hF b o (fresh_ne hx ((e2.trans e3) b o hb)) ((Ex.mut (Ex.new hdx) hx) b o ((e2.trans e3) b o hb))) hR⟩⟩
theorem en_makeF (h : EvA t σ H vs) (k : ∀ a dx H1 (Q : VK) (E : XK), Ex H H1 → H a = none → H1 a = some (.ins C dx []) → (∀ H', FrO a H1 H' → R a H' → Q .non H') → sp (.ref a :: (vs ++ dvs)) H1 Q E) : EvN (tMake C sp dvs E t) σ H R := fun H1 e Q q =>
  h H1 e _ fun H2 e2 => fun x dx hx hdx hne => k x dx _ _ _ ((e.trans e2).trans (Ex.mut (Ex.new hdx) hx)) (fresh_back (e.trans e2) hx) upd_same fun H' hF hR => ⟨rfl, q x H' (fresh_back e2 hx) (fun b o hb => hF b o (fresh_ne hx (e2 b o hb)) ((Ex.mut (Ex.new hdx) hx) b o (e2 b o hb))) hR⟩
theorem en_makeKF (h : EvA t σ H vs) (hz : EvA tk σ H zs) (l1 : vs.length = n) (l2 : zs.length = m) (k : ∀ a dx H1 (Q : VK) (E : XK), Ex H H1 → H a = none → H1 a = some (.ins C dx []) → (∀ H', FrO a H1 H' → R a H' → Q .non H') → sp (gV (.ref a :: vs) zs) H1 Q E) : EvN (tMakeK C n m sp gV E t tk) σ H R := fun H1 e Q q =>
  h H1 e _ fun H2 e2 => hz H2 (e.trans e2) _ fun H3 e3 => ⟨l1, l2, fun x dx hx hdx hne => k x dx _ _ _ (((e.trans e2).trans e3).trans (Ex.mut (Ex.new hdx) hx)) (fresh_back ((e.trans e2).trans e3) hx) upd_same fun H' hF hR => ⟨rfl, q x H' (fresh_back (e2.trans e3) hx) (fun b o hb => hF b o (fresh_ne hx ((e2.trans e3) b o hb)) ((Ex.mut (Ex.new hdx) hx) b o ((e2.trans e3) b o hb))) hR⟩⟩
/-- what stood before the object was made stands -/
theorem FrO.after {a : Addr} {H0 G H' : Hp} (f : FrO a G H') (e : Ex H0 G) (hn : H0 a = none) : Ex H0 H' := fun b o hb => f b o (by rintro rfl; rw [hn] at hb; cases hb) (e b o hb)
theorem q_asgN (h : EvN te σ H R) (k : ∀ p H1, H p = none → Ex H H1 → R p H1 → tz D (σ.set i (some (.ref p))) H1) : tSeq (tAsg te (gName i)) tz D σ H := h H (Ex.refl H) _ k
theorem s_asgN (h : EvN te σ H R) (k : ∀ p H1, H p = none → Ex H H1 → R p H1 → D.nx (σ.set i (some (.ref p))) H1) : tAsg te (gName i) D σ H := h H (Ex.refl H) _ k
theorem s_retN (h : EvN te σ H R) (k : ∀ p H1, H p = none → Ex H H1 → R p H1 → D.rt (.ref p) H1) : tRet te D σ H := h H (Ex.refl H) _ k
theorem el_if {c : TT} {b : Bool} {xs : List V} (h : EvT c σ H b) (h1 : b = true → EvL ta σ H xs) (h2 : b = false → EvL tb σ H xs) : EvL (tIf c ta tb) σ H xs := fun H1 e Q q => h H1 e _ fun H2 e2 => by
  cases b with
  | true =>
    rw [if_pos rfl]
    exact h1 rfl H2 (e.trans e2) Q fun p H3 hp e3 g => q p H3 (fresh_back e2 hp) (e2.trans e3) g
  | false =>
    rw [if_neg (by decide)]
    exact h2 rfl H2 (e.trans e2) Q fun p H3 hp e3 g => q p H3 (fresh_back e2 hp) (e2.trans e3) g
theorem s_fldL {a dx : Addr} {fs : List (Str × V)} {f : Str} {to tv : TE} {xs : List V} (c : Cls K C) (hn : NoAttr K C f) (hv : EvL tv σ H xs) (h : ∀ H1, Ex H H1 → Ev to σ H1 (.ref a)) (hx : H a = some (.ins C dx fs)) (hl : fs.length < 1000) (k : ∀ p H1, H p = none → Ex H H1 → H1 p = some (.lst xs) → D.nx σ (upd H1 a (.ins C dx (putF f (.ref p) fs)))) : sFld K to tv f D σ H :=
  hv H (Ex.refl H) _ fun p H1 hp e1 g1 => h H1 e1 H1 (Ex.refl H1) _ fun H2 e2 => ⟨a, C, dx, fs, rfl, (e1.trans e2) _ _ hx, c, hn, hl, k p H2 hp (e1.trans e2) (e2 _ _ g1)⟩
end

/-! ### division of polynomials, as functions of a place -/
abbrev Bits := Nat → Bool
def Bst (P A : Bits) : Bits := fun j => A (j + 1) ^^ (A 0 && P j)
def Ast (P A : Bits) (m : Bool) : Bits := fun j => A (j + 1) ^^ ((A 0 ^^ m) && P j)
def Arun (P : Bits) : Bits → List Bool → Bits
  | A, [] => A
  | A, m :: ms => Arun P (Ast P A m) ms
def inj (ms : List Bool) : Bits := fun j => ms.getD j false
def xf (A B : Bits) : Bits := fun j => A j ^^ B j
def Bn (P : Bits) : Bits → Nat → Bits
  | A, 0 => A
  | A, n + 1 => Bn P (Bst P A) n
theorem xf_nil (A : Bits) : xf A (inj []) = A := by
  funext j
  unfold xf inj
  rw [List.getD_nil, Bool.xor_false]
theorem Arun_eq (P : Bits) : ∀ (ms : List Bool) (A : Bits), Arun P A ms = Bn P (xf A (inj ms)) ms.length
  | [], A => by rw [xf_nil]; rfl
  | m :: ms, A => by
    show Arun P (Ast P A m) ms = Bn P (Bst P (xf A (inj (m :: ms)))) ms.length
    rw [Arun_eq P ms]
    congr 1
    funext j
    show ((A (j + 1) ^^ ((A 0 ^^ m) && P j)) ^^ ms.getD j false) = ((A (j + 1) ^^ ms.getD j false) ^^ ((A 0 ^^ m) && P j))
    generalize A (j + 1) = x
    generalize ((A 0 ^^ m) && P j) = y
    generalize ms.getD j false = z
    revert x y z
    decide
theorem Arun_append (P : Bits) : ∀ (ms ns : List Bool) (A : Bits), Arun P A (ms ++ ns) = Arun P (Arun P A ms) ns
  | [], _, _ => rfl
  | m :: ms, ns, A => Arun_append P ms ns (Ast P A m)
theorem Bst_xf (P A B : Bits) : Bst P (xf A B) = xf (Bst P A) (Bst P B) := by
  funext j
  show ((A (j + 1) ^^ B (j + 1)) ^^ ((A 0 ^^ B 0) && P j)) = ((A (j + 1) ^^ (A 0 && P j)) ^^ (B (j + 1) ^^ (B 0 && P j)))
  generalize A (j + 1) = a
  generalize B (j + 1) = b
  generalize A 0 = c
  generalize B 0 = d
  generalize P j = e
  revert a b c d e
  decide
theorem Bn_xf (P : Bits) : ∀ (n : Nat) (A B : Bits), Bn P (xf A B) n = xf (Bn P A n) (Bn P B n)
  | 0, _, _ => rfl
  | n + 1, A, B => by
    show Bn P (Bst P (xf A B)) n = xf (Bn P (Bst P A) n) (Bn P (Bst P B) n)
    rw [Bst_xf, Bn_xf P n]
def Supp (w : Nat) (A : Bits) : Prop := ∀ j, w ≤ j → A j = false
theorem Bst_supp {w : Nat} {P A : Bits} (hP : Supp w P) (hA : Supp w A) : Supp w (Bst P A) := fun j hj => by
  show (A (j + 1) ^^ (A 0 && P j)) = false
  rw [hA _ (by omega), hP _ hj, Bool.and_false]
  rfl
theorem Bn_supp {w : Nat} {P : Bits} (hP : Supp w P) : ∀ (n : Nat) {A : Bits}, Supp w A → Supp w (Bn P A n)
  | 0, _, h => h
  | n + 1, _, h => Bn_supp hP n (Bst_supp hP h)
/-- the bits of a register, the highest first -/
def reg (w r : Nat) : Bits := fun j => decide (j < w) && r.testBit (w - 1 - j)
theorem reg_supp (w r : Nat) : Supp w (reg w r) := fun j hj => by
  unfold reg
  rw [decide_eq_false (by omega), Bool.false_and]
theorem reg_xor (w r s : Nat) : reg w (r ^^^ s) = xf (reg w r) (reg w s) := by
  funext j
  show (decide (j < w) && (r ^^^ s).testBit (w - 1 - j)) = ((decide (j < w) && r.testBit (w - 1 - j)) ^^ (decide (j < w) && s.testBit (w - 1 - j)))
  rw [Nat.testBit_xor]
  cases decide (j < w)
  · rfl
  · rfl
def topn (n : Nat) : Bits := fun j => decide (j < 4) && n.testBit (3 - j)
/-- half a byte at once -/
def nib (w : Nat) (T : List Nat) (r : Nat) : Nat := ((r % 2 ^ (w - 4)) * 16) ^^^ T.getD (r / 2 ^ (w - 4) % 16) 0
theorem Bst_shift {P A : Bits} (h : A 0 = false) : Bst P A = fun j => A (j + 1) := by
  funext j
  show (A (j + 1) ^^ (A 0 && P j)) = _
  rw [h, Bool.false_and, Bool.xor_false]
theorem nib_ok {w : Nat} {T : List Nat} {P : Bits} (hw : 8 ≤ w) (hP : Supp w P) (hT : ∀ n, n < 16 → ∀ j, j < w → reg w (T.getD n 0) j = Bn P (topn n) 4 j) {r : Nat} (hr : r < 2 ^ w) : reg w (nib w T r) = Bn P (reg w r) 4 := by
  have hd : reg w r = xf (topn (r / 2 ^ (w - 4) % 16)) (fun j => decide (4 ≤ j) && reg w r j) := by
    funext j
    show (decide (j < w) && r.testBit (w - 1 - j)) = ((decide (j < 4) && (r / 2 ^ (w - 4) % 16).testBit (3 - j)) ^^ (decide (4 ≤ j) && (decide (j < w) && r.testBit (w - 1 - j))))
    by_cases h4 : j < 4
    · rw [decide_eq_true h4, decide_eq_true (show j < w by omega), decide_eq_false (show ¬ 4 ≤ j by omega), Bool.true_and, Bool.true_and, Bool.false_and, Bool.xor_false]
      have e16 : (16 : Nat) = 2 ^ 4 := rfl
      rw [e16, Nat.testBit_mod_two_pow, Nat.testBit_div_two_pow, decide_eq_true (show 3 - j < 4 by omega), Bool.true_and, show 3 - j + (w - 4) = w - 1 - j by omega]
    · rw [decide_eq_false h4, decide_eq_true (show 4 ≤ j by omega), Bool.false_and, Bool.false_xor, Bool.true_and]
  have hn : r / 2 ^ (w - 4) % 16 < 16 := Nat.mod_lt _ (by decide)
  have hTt : reg w (T.getD (r / 2 ^ (w - 4) % 16) 0) = Bn P (topn (r / 2 ^ (w - 4) % 16)) 4 := by
    funext j
    by_cases hj : j < w
    · exact hT _ hn j hj
    · rw [reg_supp w _ j (by omega), Bn_supp hP 4 (fun j hj => by unfold topn; rw [decide_eq_false (by omega), Bool.false_and]) j (by omega)]
  have hs : Bn P (fun j => decide (4 ≤ j) && reg w r j) 4 = fun j => reg w r (j + 4) := by
    show Bst P (Bst P (Bst P (Bst P _))) = _
    rw [Bst_shift rfl, Bst_shift rfl, Bst_shift rfl, Bst_shift rfl]
    funext j
    show (decide (4 ≤ j + 1 + 1 + 1 + 1) && reg w r (j + 1 + 1 + 1 + 1)) = _
    rw [decide_eq_true (by omega), Bool.true_and]
  conv => rhs; rw [hd]
  rw [Bn_xf, ← hTt, hs]
  unfold nib
  rw [reg_xor]
  funext j
  show (reg w (r % 2 ^ (w - 4) * 16) j ^^ reg w (T.getD (r / 2 ^ (w - 4) % 16) 0) j) = (reg w (T.getD (r / 2 ^ (w - 4) % 16) 0) j ^^ reg w r (j + 4))
  rw [Bool.xor_comm]
  congr 1
  unfold reg
  have e16 : (16 : Nat) = 2 ^ 4 := rfl
  rw [e16, Nat.testBit_mul_two_pow, Nat.testBit_mod_two_pow]
  by_cases h1 : j + 4 < w
  · rw [decide_eq_true (show j < w by omega), decide_eq_true h1, decide_eq_true (show 4 ≤ w - 1 - j by omega), decide_eq_true (show w - 1 - j - 4 < w - 4 by omega), show w - 1 - j - 4 = w - 1 - (j + 4) by omega]
    simp
  · rw [decide_eq_false h1, decide_eq_false (show ¬ 4 ≤ w - 1 - j by omega)]
    simp
theorem nib_lt {w : Nat} {T : List Nat} (hw : 8 ≤ w) (hT : ∀ n, n < 16 → T.getD n 0 < 2 ^ w) (r : Nat) : nib w T r < 2 ^ w := by
  unfold nib
  refine Nat.xor_lt_two_pow ?_ (hT _ (Nat.mod_lt _ (by decide)))
  have h1 : r % 2 ^ (w - 4) < 2 ^ (w - 4) := Nat.mod_lt _ (Nat.two_pow_pos _)
  have h2 : 2 ^ w = 2 ^ (w - 4) * 16 := by
    rw [show (16 : Nat) = 2 ^ 4 from rfl, ← Nat.pow_add, show w - 4 + 4 = w by omega]
  rw [h2]
  exact Nat.mul_lt_mul_of_pos_right h1 (by decide)
/-- the bits of a byte -/
def bits8 (b : Nat) : List Bool := (List.range 8).map fun k => b.testBit (7 - k)
theorem bits8_len (b : Nat) : (bits8 b).length = 8 := rfl
theorem byte_in {w b r : Nat} (hw : 8 ≤ w) (hb : b < 256) : reg w (r ^^^ (b * 2 ^ (w - 8))) = xf (reg w r) (inj (bits8 b)) := by
  rw [reg_xor]
  congr 1
  funext j
  unfold reg inj bits8
  rw [Nat.testBit_mul_two_pow, List.getD_eq_getElem?_getD, List.getElem?_map]
  by_cases h : j < 8
  · rw [List.getElem?_range h, decide_eq_true (show j < w by omega), decide_eq_true (show w - 8 ≤ w - 1 - j by omega), show w - 1 - j - (w - 8) = 7 - j by omega]
    rfl
  · rw [List.getElem?_eq_none (by rw [List.length_range]; omega)]
    by_cases h2 : j < w
    · rw [decide_eq_false (show ¬ w - 8 ≤ w - 1 - j by omega)]
      simp
    · rw [decide_eq_false h2]
      rfl
def stp (w : Nat) (T : List Nat) (r b : Nat) : Nat := nib w T (nib w T (r ^^^ (b * 2 ^ (w - 8))))
def crcN (w : Nat) (T : List Nat) (r : Nat) (ds : List Nat) : Nat := ds.foldl (stp w T) r
structure Tab (w p : Nat) (T : List Nat) : Prop where
  w8 : 8 ≤ w
  bd : ∀ n, n < 16 → T.getD n 0 < 2 ^ w
  ok : ∀ n, n < 16 → ∀ j, j < w → reg w (T.getD n 0) j = Bn (reg w p) (topn n) 4 j
theorem xor_bd {w r b : Nat} (hw : 8 ≤ w) (hr : r < 2 ^ w) (hb : b < 256) : r ^^^ (b * 2 ^ (w - 8)) < 2 ^ w := by
  refine Nat.xor_lt_two_pow hr ?_
  have h2 : 2 ^ w = 256 * 2 ^ (w - 8) := by
    rw [show (256 : Nat) = 2 ^ 8 from rfl, ← Nat.pow_add, show 8 + (w - 8) = w by omega]
  rw [h2]
  exact Nat.mul_lt_mul_of_pos_right hb (Nat.two_pow_pos _)
theorem stp_lt {w p : Nat} {T : List Nat} (t : Tab w p T) (r b : Nat) : stp w T r b < 2 ^ w := nib_lt t.w8 t.bd _
theorem stp_ok {w p : Nat} {T : List Nat} (t : Tab w p T) {r b : Nat} (hr : r < 2 ^ w) (hb : b < 256) : reg w (stp w T r b) = Arun (reg w p) (reg w r) (bits8 b) := by
  rw [Arun_eq, bits8_len, ← byte_in t.w8 hb]
  unfold stp
  rw [nib_ok t.w8 (reg_supp w p) t.ok (nib_lt t.w8 t.bd _), nib_ok t.w8 (reg_supp w p) t.ok (xor_bd t.w8 hr hb)]
  rfl
theorem crcN_ok {w p : Nat} {T : List Nat} (t : Tab w p T) : ∀ (ds : List Nat) (r : Nat), r < 2 ^ w → (∀ d ∈ ds, d < 256) → crcN w T r ds < 2 ^ w ∧ reg w (crcN w T r ds) = Arun (reg w p) (reg w r) (ds.flatMap bits8)
  | [], r, hr, _ => ⟨hr, rfl⟩
  | d :: ds, r, hr, h => by
    have ih := crcN_ok t ds (stp w T r d) (stp_lt t r d) fun x hx => h x (List.mem_cons_of_mem _ hx)
    rw [List.flatMap_cons, Arun_append, ← stp_ok t hr (h d (List.mem_cons_self ..))]
    exact ih
def T8 : List Nat := [0, 7, 14, 9, 28, 27, 18, 21, 56, 63, 54, 49, 36, 35, 42, 45]
def T16 : List Nat := [0, 32773, 32783, 10, 32795, 30, 20, 32785, 32819, 54, 60, 32825, 40, 32813, 32807, 34]
def T32 : List Nat := [0, 79764919, 159529838, 222504665, 319059676, 398814059, 445009330, 507990021, 638119352, 583659535, 797628118, 726387553, 890018660, 835552979, 1015980042, 944750013]
theorem tab8 : Tab 8 7 T8 := ⟨by decide, by decide +kernel, by decide +kernel⟩
theorem tab16 : Tab 16 32773 T16 := ⟨by decide, by decide +kernel, by decide +kernel⟩
theorem tab32 : Tab 32 79764919 T32 := ⟨by decide, by decide +kernel, by decide +kernel⟩
/-- two registers with the same bits -/
theorem reg_inj {w r s : Nat} (hr : r < 2 ^ w) (hs : s < 2 ^ w) (h : ∀ j, j < w → reg w r j = reg w s j) : r = s := by
  refine Nat.eq_of_testBit_eq fun i => ?_
  by_cases hi : i < w
  · have := h (w - 1 - i) (by omega)
    unfold reg at this
    rw [decide_eq_true (by omega), Bool.true_and, Bool.true_and, show w - 1 - (w - 1 - i) = i by omega] at this
    exact this
  · rw [Nat.testBit_lt_two_pow (Nat.lt_of_lt_of_le hr (Nat.pow_le_pow_right (by decide) (by omega))), Nat.testBit_lt_two_pow (Nat.lt_of_lt_of_le hs (Nat.pow_le_pow_right (by decide) (by omega)))]
/-! ### the division in a row of bits -/
def b2 (b : Bool) : Int := if b then 1 else 0
theorem b2_xor (a b : Bool) : Builtin.bitXor (b2 a) (b2 b) = b2 (a ^^ b) := by
  cases a <;> cases b <;> decide +kernel
theorem b2_bit (n i : Nat) : Builtin.bitAnd ((n : Int) / 2 ^ i) 1 = b2 (n.testBit i) := by
  have h1 : ((n : Int) / 2 ^ i) = ((n / 2 ^ i : Nat) : Int) := by
    rw [Int.natCast_ediv, Int.natCast_pow]
    rfl
  have h2 := _root_.Bits.bitAnd_mask (x := ((n / 2 ^ i : Nat) : Int)) 1 (Int.natCast_nonneg _)
  rw [h1]
  rw [show ((2 : Int) ^ 1 - 1) = 1 from rfl] at h2
  rw [h2, Nat.testBit_eq_decide_div_mod_eq]
  unfold b2
  by_cases h : n / 2 ^ i % 2 = 1
  · rw [decide_eq_true h, if_pos rfl]
    omega
  · rw [decide_eq_false h, if_neg (by decide)]
    omega
/-- a row of n bits -/
def row (n : Nat) (f : Bits) : List Int := (List.range n).map fun i => b2 (f i)
theorem row_len (n : Nat) (f : Bits) : (row n f).length = n := by unfold row; rw [List.length_map, List.length_range]
theorem row_at {n : Nat} {f : Bits} {i : Nat} (h : i < n) : (row n f)[i]? = some (b2 (f i)) := by
  unfold row
  rw [List.getElem?_map, List.getElem?_range h]
  rfl
theorem row_set {n : Nat} {f : Bits} {i : Nat} {x : Bool} : (row n f).set i (b2 x) = row n (fun j => if j = i then x else f j) := by
  refine List.ext_getElem? fun j => ?_
  by_cases hj : j < n
  · rw [row_at hj, List.getElem?_set]
    by_cases hi : i = j
    · subst hi
      rw [if_pos rfl, if_pos (by rw [row_len]; exact hj), if_pos rfl]
    · rw [if_neg hi, row_at hj, if_neg (fun e => hi e.symm)]
  · rw [List.getElem?_eq_none (by rw [List.length_set, row_len]; omega), List.getElem?_eq_none (by rw [row_len]; omega)]
theorem row_congr {n : Nat} {f g : Bits} (h : ∀ i, i < n → f i = g i) : row n f = row n g := by
  unfold row
  exact List.map_congr_left fun i hi => by rw [h i (List.mem_range.mp hi)]
/-- the k-th step -/
def lstep (P : Bits) (w k : Nat) (f : Bits) : Bits := if f k = true then fun i => if i = k then false else (f i ^^ (decide (k < i) && decide (i ≤ k + w) && P (i - (k + 1)))) else f
def lrun (P : Bits) (w : Nat) (f : Bits) : Nat → Bits
  | 0 => f
  | k + 1 => lstep P w k (lrun P w f k)
theorem lrun_ok {P : Bits} {w : Nat} (hP : Supp w P) (ms : List Bool) (A : Bits) : ∀ k, k ≤ ms.length → ∀ i, k ≤ i → lrun P w (fun i => ms.getD i false ^^ A i) k i = (ms.getD i false ^^ Arun P A (ms.take k) (i - k))
  | 0, _, i, _ => by rw [List.take_zero]; rfl
  | k + 1, hk, i, hi => by
    have ih := lrun_ok hP ms A k (by omega)
    have hm : ms.take (k + 1) = ms.take k ++ [ms.getD k false] := by
      rw [List.take_add_one, List.getD_eq_getElem?_getD, List.getElem?_eq_getElem (by omega)]
      rfl
    rw [hm, Arun_append]
    show lstep P w k (lrun P w _ k) i = (ms.getD i false ^^ Ast P (Arun P A (ms.take k)) (ms.getD k false) (i - (k + 1)))
    have h0 := ih k (Nat.le_refl _)
    have h1 := ih i (by omega)
    rw [Nat.sub_self] at h0
    generalize lrun P w (fun i => ms.getD i false ^^ A i) k = f at *
    generalize Arun P A (ms.take k) = B at *
    unfold lstep Ast
    have hp : (decide (k < i) && decide (i ≤ k + w) && P (i - (k + 1))) = P (i - (k + 1)) := by
      rw [decide_eq_true (by omega : k < i), Bool.true_and]
      by_cases h : i ≤ k + w
      · rw [decide_eq_true h, Bool.true_and]
      · rw [decide_eq_false h, hP _ (by omega)]
        rfl
    have hsub : i - (k + 1) + 1 = i - k := by omega
    rw [hsub]
    by_cases ht : f k = true
    · rw [if_pos ht]
      show (if i = k then false else (f i ^^ (decide (k < i) && decide (i ≤ k + w) && P (i - (k + 1))))) = _
      rw [if_neg (by omega), hp, h1]
      rw [h0] at ht
      have hx : (B 0 ^^ ms.getD k false) = true := by rw [Bool.xor_comm]; exact ht
      rw [hx, Bool.true_and, Bool.xor_assoc]
    · rw [if_neg ht, h1]
      rw [h0] at ht
      have hx : (B 0 ^^ ms.getD k false) = false := by
        rw [Bool.xor_comm]
        exact Bool.eq_false_iff.mpr ht
      rw [hx, Bool.false_and, Bool.xor_false]
/-- the value of bits, the highest first -/
def valb (f : Bits) : Nat → Nat
  | 0 => 0
  | n + 1 => 2 * valb f n + (f n).toNat
theorem valb_reg {w r : Nat} (hr : r < 2 ^ w) : ∀ n, n ≤ w → valb (reg w r) n = r / 2 ^ (w - n)
  | 0, _ => by
    rw [Nat.sub_zero, Nat.div_eq_of_lt hr]
    rfl
  | n + 1, h => by
    show 2 * valb (reg w r) n + (reg w r n).toNat = _
    rw [valb_reg hr n (by omega)]
    unfold reg
    rw [decide_eq_true (by omega), Bool.true_and, Nat.testBit_eq_decide_div_mod_eq, show w - 1 - n = w - (n + 1) by omega, show w - n = (w - (n + 1)) + 1 by omega, Nat.pow_succ, ← Nat.div_div_eq_div_mul]
    have := Nat.mod_two_eq_zero_or_one (r / 2 ^ (w - (n + 1)))
    rcases this with h | h
    · rw [h]
      show _ + 0 = _
      omega
    · rw [h]
      show _ + 1 = _
      omega
theorem valb_congr {f g : Bits} : ∀ n, (∀ i, i < n → f i = g i) → valb f n = valb g n
  | 0, _ => rfl
  | n + 1, h => by
    show 2 * valb f n + (f n).toNat = 2 * valb g n + (g n).toNat
    rw [valb_congr n fun i hi => h i (by omega), h n (by omega)]
theorem bits_len (ds : List Nat) : (ds.flatMap bits8).length = 8 * ds.length := by
  induction ds with
  | nil => rfl
  | cons d r ih =>
    rw [List.flatMap_cons, List.length_append, ih, bits8_len, List.length_cons]
    omega

/-! ### fields of bits -/
def bitsN (n v : Nat) : List Bool := (List.range n).map fun k => v.testBit (n - 1 - k)
theorem bitsN_len (n v : Nat) : (bitsN n v).length = n := by unfold bitsN; rw [List.length_map, List.length_range]
theorem bitsN_at {n v i : Nat} (h : i < n) : (bitsN n v)[i]? = some (v.testBit (n - 1 - i)) := by
  unfold bitsN
  rw [List.getElem?_map, List.getElem?_range h]
  rfl
theorem bitsN_congr {n v u : Nat} (h : ∀ i, i < n → v.testBit i = u.testBit i) : bitsN n v = bitsN n u := by
  unfold bitsN
  exact List.map_congr_left fun k hk => h _ (by have := List.mem_range.mp hk; omega)
theorem bitsN_mod (n v : Nat) : bitsN n (v % 2 ^ n) = bitsN n v := bitsN_congr fun i hi => by rw [Nat.testBit_mod_two_pow, decide_eq_true hi, Bool.true_and]
theorem bitsN_add (n w x : Nat) : bitsN (n + w) x = bitsN n (x / 2 ^ w) ++ bitsN w x := by
  refine List.ext_getElem? fun i => ?_
  by_cases h : i < n
  · rw [List.getElem?_append_left (by rw [bitsN_len]; exact h), bitsN_at h, bitsN_at (by omega), Nat.testBit_div_two_pow, show n - 1 - i + w = n + w - 1 - i by omega]
  · rw [List.getElem?_append_right (by rw [bitsN_len]; omega), bitsN_len]
    by_cases h2 : i - n < w
    · rw [bitsN_at h2, bitsN_at (by omega), show w - 1 - (i - n) = n + w - 1 - i by omega]
    · rw [List.getElem?_eq_none (by rw [bitsN_len]; omega), List.getElem?_eq_none (by rw [bitsN_len]; omega)]
theorem bitsN_cat {n w h v : Nat} (hv : v < 2 ^ w) : bitsN (n + w) (h * 2 ^ w + v) = bitsN n h ++ bitsN w v := by
  rw [bitsN_add]
  congr 1
  · rw [Nat.add_comm, Nat.add_mul_div_right _ _ (Nat.two_pow_pos w), Nat.div_eq_of_lt hv, Nat.zero_add]
  · rw [← bitsN_mod, Nat.add_comm, Nat.add_mul_mod_self_right, bitsN_mod]
theorem bits8_N (b : Nat) : bits8 b = bitsN 8 b := rfl
theorem bitsN_zero (n : Nat) : bitsN n 0 = List.replicate n false := by
  unfold bitsN
  refine List.ext_getElem? fun i => ?_
  rw [List.getElem?_map]
  by_cases h : i < n
  · rw [List.getElem?_range h, List.getElem?_replicate, if_pos h]
    show some (Nat.testBit 0 _) = _
    rw [Nat.zero_testBit]
  · rw [List.getElem?_eq_none (by rw [List.length_range]; omega), List.getElem?_eq_none (by rw [List.length_replicate]; omega)]
    rfl
theorem bits_flat_len (ws : List Nat) : (ws.flatMap bits8).length = 8 * ws.length := by
  induction ws with
  | nil => rfl
  | cons d r ih =>
    rw [List.flatMap_cons, List.length_append, ih, List.length_cons]
    show 8 + _ = _
    omega

/-! ### lists of bits, as numbers -/
def bI (ms : List Bool) : List Int := ms.map b2
theorem bI_len (ms : List Bool) : (bI ms).length = ms.length := List.length_map ..
theorem bI_append (ms ns : List Bool) : bI (ms ++ ns) = bI ms ++ bI ns := List.map_append ..
theorem bI_at {ms : List Bool} {i : Nat} {b : Bool} (h : ms[i]? = some b) : (bI ms)[i]? = some (b2 b) := by unfold bI; rw [List.getElem?_map, h]; rfl
theorem bI_false (n : Nat) : bI (List.replicate n false) = List.replicate n 0 := by unfold bI; rw [List.map_replicate]; rfl
theorem ev_bit {σ : L2.St} {H : Hp} {t1 t2 : TE} {n i : Nat} {j : Int} (h1 : Ev t1 σ H (.int (n : Int))) (h2 : Ev t2 σ H (.int j)) (hj : j = (i : Int)) : Ev (tOp (rI0 fun i j => .int (Builtin.bitAnd i j)) (tOp (rI (fun _ j => 0 ≤ j) fun i j => .int (i / 2 ^ j.toNat)) t1 t2) (tC (.int 1))) σ H (.int (b2 (n.testBit i))) := by
  subst hj
  exact Ev.is (ev_I0 (ev_I h1 h2 (by show (0 : Int) ≤ _; omega)) ev_c) (congrArg V.int (by rw [Int.toNat_natCast]; exact b2_bit n i))
def valL (ms : List Bool) : Nat := ms.foldl (fun a b => 2 * a + b.toNat) 0
theorem valL_snoc (ms : List Bool) (b : Bool) : valL (ms ++ [b]) = 2 * valL ms + b.toNat := by unfold valL; rw [List.foldl_append]; rfl
theorem valL_8 : ∀ d, d < 256 → valL (bits8 d) = d := by decide +kernel
def padN (n : Nat) : Nat := (8 - n % 8) % 8
theorem b2_nat (b : Bool) : b2 b = (b.toNat : Int) := by cases b <;> rfl

theorem pow_cast (k : Nat) : ((2 : Int) ^ k) = ((2 ^ k : Nat) : Int) := by rw [Int.natCast_pow]; rfl
/-! ### BitReader -/
theorem flat_drop : ∀ (ds : List Nat) (a : Nat), (ds.flatMap bits8).drop (8 * a) = (ds.drop a).flatMap bits8
  | [], a => by rw [List.flatMap_nil, List.drop_nil, List.drop_nil, List.flatMap_nil]
  | d :: r, 0 => rfl
  | d :: r, a + 1 => by
    rw [List.flatMap_cons, show 8 * (a + 1) = (bits8 d).length + 8 * a by show _ = 8 + 8 * a; omega, List.drop_append, List.drop_of_length_le (by omega), List.nil_append, show (bits8 d).length + 8 * a - (bits8 d).length = 8 * a by omega]
    exact flat_drop r a
theorem flat_take : ∀ (ds : List Nat) (m : Nat), (ds.flatMap bits8).take (8 * m) = (ds.take m).flatMap bits8
  | [], m => by rw [List.flatMap_nil, List.take_nil, List.take_nil, List.flatMap_nil]
  | d :: r, 0 => rfl
  | d :: r, m + 1 => by
    rw [List.flatMap_cons, show 8 * (m + 1) = (bits8 d).length + 8 * m by show _ = 8 + 8 * m; omega, List.take_append, List.take_of_length_le (by omega), show (bits8 d).length + 8 * m - (bits8 d).length = 8 * m by omega, flat_take r m]
    rfl
def numB (bs : List Nat) : Nat := bs.foldl (fun a b => a * 2 ^ 8 + b) 0
theorem numB_snoc (bs : List Nat) (b : Nat) : numB (bs ++ [b]) = numB bs * 2 ^ 8 + b := by unfold numB; rw [List.foldl_append]; rfl
theorem numB_bits (bs : List Nat) (h : ∀ b ∈ bs, b < 256) : ∀ k, k ≤ bs.length → bitsN (8 * k) (numB (bs.take k)) = (bs.take k).flatMap bits8 ∧ numB (bs.take k) < 2 ^ (8 * k)
  | 0, _ => ⟨rfl, by rw [List.take_zero]; decide⟩
  | k + 1, hk => by
    obtain ⟨h1, h2⟩ := numB_bits bs h k (by omega)
    have hb : bs[k]? = some bs[k] := List.getElem?_eq_getElem (by omega)
    have hlt : bs[k] < 2 ^ 8 := h _ (List.getElem_mem (by omega))
    rw [show bs.take (k + 1) = bs.take k ++ [bs[k]] from by rw [List.take_add_one, hb]; rfl, numB_snoc, show 8 * (k + 1) = 8 * k + 8 by omega, bitsN_cat hlt, h1, List.flatMap_append, List.flatMap_cons, List.flatMap_nil, List.append_nil]
    refine ⟨rfl, ?_⟩
    rw [Nat.pow_add]
    have : (numB (bs.take k) + 1) * 2 ^ 8 ≤ 2 ^ (8 * k) * 2 ^ 8 := Nat.mul_le_mul_right _ h2
    rw [Nat.add_mul, Nat.one_mul] at this
    omega
theorem valL_bitsN : ∀ (w v : Nat), valL (bitsN w v) = v % 2 ^ w
  | 0, v => by rw [Nat.pow_zero, Nat.mod_one]; rfl
  | w + 1, v => by
    rw [bitsN_add w 1 v]
    show valL (bitsN w (v / 2 ^ 1) ++ [v.testBit 0]) = _
    have e : v % 2 ^ (w + 1) = v % 2 + 2 * (v / 2 % 2 ^ w) := by rw [Nat.pow_succ, Nat.mul_comm, Nat.mod_mul]
    rw [valL_snoc, valL_bitsN w (v / 2 ^ 1), Nat.pow_one, e, Nat.testBit_zero]
    have := Nat.mod_two_eq_zero_or_one v
    rcases this with h | h
    · rw [h]
      show _ + 0 = _
      omega
    · rw [h]
      show _ + 1 = _
      omega
theorem slice_bits {ds : List Nat} (hd : ∀ d ∈ ds, d < 256) {pos w : Nat} (h : pos + w ≤ 8 * ds.length) : valL (((ds.flatMap bits8).drop pos).take w) = numB ((ds.drop (pos / 8)).take ((pos + w + 7) / 8 - pos / 8)) / 2 ^ (8 * ((pos + w + 7) / 8) - (pos + w)) % 2 ^ w := by
  generalize hm : (pos + w + 7) / 8 - pos / 8 = m
  generalize hk : 8 * ((pos + w + 7) / 8) - (pos + w) = k
  have hsl : ((ds.drop (pos / 8)).take m).length = m := by rw [List.length_take, List.length_drop]; omega
  have hb := (numB_bits ((ds.drop (pos / 8)).take m) (fun b hb => hd b (List.mem_of_mem_drop (List.mem_of_mem_take hb))) m (by omega)).1
  rw [List.take_of_length_le (by omega)] at hb
  rw [← flat_take, ← flat_drop] at hb
  generalize numB ((ds.drop (pos / 8)).take m) = x at *
  have h8 : 8 * m = pos % 8 + (w + k) := by omega
  have hdrop : ((ds.flatMap bits8).drop pos).take w = ((((ds.flatMap bits8).drop (8 * (pos / 8))).take (8 * m)).drop (pos % 8)).take w := by
    rw [List.drop_take, List.take_take, List.drop_drop, show 8 * (pos / 8) + pos % 8 = pos by omega, Nat.min_eq_left (by omega)]
  rw [hdrop, ← hb, h8, bitsN_add, bitsN_add, List.drop_left' (bitsN_len _ _), List.take_left' (bitsN_len _ _), valL_bitsN]
def rF (d : Addr) (pos : Nat) : List (Str × V) := [("_data", .ref d), ("_position", .int (pos : Int))]
def RdAt (C : Addr) (H : Hp) (a d : Addr) (pos : Nat) : Prop := ∃ dx, H a = some (.ins C dx (rF d pos))
def FrA (a : Addr) (H H' : Hp) : Prop := ∀ b o, b ≠ a → H b = some o → H' b = some o
theorem FrA.ex {a : Addr} {H H1 : Hp} (h : Ex H H1) : FrA a H H1 := fun b o _ e => h b o e
theorem FrA.trans {a : Addr} {H H1 H2 : Hp} (h : FrA a H H1) (g : FrA a H1 H2) : FrA a H H2 := fun b o n e => g b o n (h b o n e)
theorem FrA.upd {a : Addr} {H H1 : Hp} {o : HO} (h : FrA a H H1) : FrA a H (upd H1 a o) := fun b p n e => by rw [upd_ne n]; exact h b p n e
theorem RdAt.ex {C a d : Addr} {H H1 : Hp} {pos : Nat} (e : Ex H H1) (h : RdAt C H a d pos) : RdAt C H1 a d pos := by
  obtain ⟨dx, h⟩ := h
  exact ⟨dx, e _ _ h⟩
theorem RdAt.ne {C a d : Addr} {H : Hp} {pos : Nat} {p : Addr} {xs : List V} (h : RdAt C H a d pos) (hp : H p = some (.lst xs)) : p ≠ a := by
  obtain ⟨dx, h⟩ := h
  intro e
  rw [e, h] at hp
  cases hp
def sp_rinit (C : Addr) : Sp := fun vs H Q _ => ∃ (a dx d : Addr) (at_ : Nat), vs = [.ref a, .ref d, .int (at_ : Int)] ∧ H a = some (.ins C dx []) ∧ at_ ≤ 1000000 ∧ ∀ H', FrA a H H' → RdAt C H' a d (8 * at_) → Q .non H'
theorem ok_BitReader_init (T : TX K mg) : FnOk P w K mg base CX0 1 T.a_BitReader_init T.d_BitReader_init ["self", "data", "at"] (sp_rinit T.C_BitReader) := by
  refine T.F_BitReader_init.ok sc_BitReader_init (fun vs H Q E h => by obtain ⟨a, dx, d, t, rfl, _⟩ := h; rfl) (fun cdv A outer s H vs Q E hr h => ?_)
  obtain ⟨a, dx, d, t, rfl, ha, ht, k⟩ := h
  refine ⟨_, PSs.nox (pss_cons (ps_fld (pv 0) (pv 1) rfl)
      (pss_one (ps_fld (pv 0) (pe_op op_mul (pv 2) pe_int) rfl))), ?_⟩
  refine q_fld T.cl_BitReader T.n_BitReader_data (v := .ref d) (ev_var rfl) (ev_var rfl) ha (by decide) fun H1 e1 => ?_
  refine s_fld T.cl_BitReader T.n_BitReader_position (v := .int ((8 * t : Nat) : Int)) (Ev.is (ev_I (ev_var rfl) ev_c (.inr (by decide))) (congrArg V.int (by omega))) (ev_var rfl) upd_same (Nat.le_of_ble_eq_true rfl) fun H2 e2 => ?_
  exact k _ ((FrA.ex e1).upd.trans (FrA.ex e2)).upd ⟨dx, upd_same⟩
def sp_read (C : Addr) : Sp := fun vs H Q _ => ∃ (a d : Addr) (ds : List Nat) (pos wd : Nat), vs = [.ref a, .int (wd : Int)] ∧ RdAt C H a d pos ∧ H d = some (.lst ((cs ds).map V.int)) ∧ (∀ b ∈ ds, b < 256) ∧ wd ≤ 64 ∧ pos + wd ≤ 8 * ds.length ∧ ds.length ≤ 100000 ∧ ∀ H', FrA a H H' → RdAt C H' a d (pos + wd) → Q (.int ((valL (((ds.flatMap bits8).drop pos).take wd) : Nat) : Int)) H'
theorem q_forSr {σ : L2.St} {H : Hp} {D : Ends} {tu tz : TS} {tl : TE} {g : TG} {xs : List V} (h : EvS K tl σ H xs) (k : ∀ p H1, Ex H H1 → SqL K H1 p xs → tSeq (tFor (iList K (tC (.ref p))) g tu) tz D σ H1) : tSeq (tFor (iList K tl) g tu) tz D σ H := h H (Ex.refl H) _ fun p H1 e hp => k p H1 e hp
theorem ok_BitReader_read (T : TX K mg) : FnOk P w K mg base CX0 1 T.a_BitReader_read T.d_BitReader_read ["self", "width"] (sp_read T.C_BitReader) := by
  refine T.F_BitReader_read.ok sc_BitReader_read (fun vs H Q E h => by obtain ⟨a, d, ds, pos, wd, rfl, _⟩ := h; rfl) (fun cdv A outer s H vs Q E hr h => ?_)
  obtain ⟨a, d, ds, pos, wd, rfl, ⟨dx, ha⟩, hd, hds, hw, hp, hlen, k⟩ := h
  refine ⟨_, (pss_cons (ps_set (i := 2) sc_BitReader_read.nd rfl (Or.inl rfl) (pe_fld (pv 0) rfl))
      (pss_cons (ps_set (i := 3) sc_BitReader_read.nd rfl (Or.inl rfl) (pe_fld (pv 0) rfl))
      (pss_cons (ps_set (i := 4) sc_BitReader_read.nd rfl (Or.inl rfl) (pe_op op_add (pv 3) (pv 1)))
      (pss_cons (ps_if (pt_cmpR op_gt (pv 4) (pe_op op_mul (pe_callB (r := rLenS K) call_len_seq (by rfl) T.m_len PySem.boot_len (pa_cons (pv 2) pa_nil)) pe_int) (nomark _)) (pss_one ps_never) pss_nil)
      (pss_cons (ps_set (i := 5) sc_BitReader_read.nd rfl (Or.inl rfl) (pe_op op_fdiv (pe_op op_add (pv 4) pe_int) pe_int))
      (pss_cons (ps_set (i := 6) sc_BitReader_read.nd rfl (Or.inl rfl) pe_int)
      (pss_cons (ps_for PassesOwn.never rfl (pi_list (pe_slice (r := rSlL K) sl_list (pv 2) (po_some (pe_op op_fdiv (pv 3) pe_int)) (po_some (pv 5)))) (pg_name (i := 7) sc_BitReader_read.nd rfl (Or.inl rfl)) (pss_one (ps_set (i := 6) sc_BitReader_read.nd rfl (Or.inl rfl) (pe_op op_or (pe_op op_shl (pv 6) pe_int) (pv 7)))))
      (pss_cons (ps_fld (pv 0) (pv 4) rfl)
      (pss_one (ps_ret (pe_op op_and (pe_op op_shr (pv 6) (pe_op op_sub (pe_op op_mul (pv 5) pe_int) (pv 4))) (pe_op op_sub (pe_op op_shl pe_int (pv 1)) pe_int)))))))))))), ?_⟩
  refine q_asg (ev_fld T.cl_BitReader T.n_BitReader_data (v := .ref d) (ev_var rfl) ha rfl) fun H1 e1 => ?_
  refine q_asg (ev_fld T.cl_BitReader T.n_BitReader_position (v := .int (pos : Int)) (ev_var rfl) (e1 _ _ ha) rfl) fun H2 e2 => ?_
  refine q_asg (v := .int ((pos + wd : Nat) : Int)) (Ev.is (ev_I0 (ev_var rfl) (ev_var rfl)) (congrArg V.int (by omega))) fun H3 e3 => ?_
  have ex3 := (e1.trans e2).trans e3
  refine q_when (b := false) (et_test (Ev.is (ev_I0 (ev_var rfl) (ev_I (ev_lenS (Ev.s (ev_var rfl) (sq_of (ex3 _ _ hd)))) ev_c (.inr (by decide)))) (congrArg V.bl (decide_eq_false (by rw [List.length_map, cs_len]; omega))))) (fun hb => by cases hb) fun _ H4 e4 => ?_
  refine q_asg (v := .int (((pos + wd + 7) / 8 : Nat) : Int)) (Ev.is (ev_I (ev_I0 (ev_var rfl) ev_c) ev_c ⟨by decide, by decide⟩) (congrArg V.int (by omega))) fun H5 e5 => ?_
  walk_at "asg"
  intro H6 e6
  have ex6 := ((ex3.trans e4).trans e5).trans e6
  have hsb := slice_bits hds hp
  generalize hbs : (ds.drop (pos / 8)).take ((pos + wd + 7) / 8 - pos / 8) = bs at *
  have hbl : bs.length ≤ 9 := by rw [← hbs, List.length_take]; omega
  have hb256 : ∀ b ∈ bs, b < 256 := fun b hb => hds b (by rw [← hbs] at hb; exact List.mem_of_mem_drop (List.mem_of_mem_take hb))
  refine q_forSr (xs := (cs bs).map V.int) (EvR.s (EvL.r (EvL.is (el_mid (ns := cs ds) (i := pos / 8) (j := (pos + wd + 7) / 8) (Ev.s (ev_var rfl) (sq_of (ex6 _ _ hd))) (Ev.is (ev_I (ev_var rfl) ev_c ⟨by decide, by decide⟩) (congrArg V.int (by omega))) (ev_var rfl)) (by rw [cs_drop, cs_take, hbs])))) fun p H7 e7 hq => ?_
  refine q_forLn (a := p) ev_c hq (fun i σ' H' => ∃ c, σ' = [some (.ref a), some (.int (wd : Int)), some (.ref d), some (.int (pos : Int)), some (.int ((pos + wd : Nat) : Int)), some (.int (((pos + wd + 7) / 8 : Nat) : Int)), some (.int ((numB (bs.take i) : Nat) : Int)), c] ∧ Ex H7 H')
    (fun H8 e8 => ⟨none, rfl, e8⟩) (fun i σ' H' _ h => by obtain ⟨_, _, e⟩ := h; exact ex_l e hq) ?_ ?_
  · rintro i x σ' H8 hx ⟨c, rfl, e8⟩
    obtain ⟨n, hn, hi, rfl⟩ := int_at hx
    rw [cs_len] at hi
    have hbi : bs[i]? = some bs[i] := List.getElem?_eq_getElem hi
    have hn2 := cs_at hbi
    rw [hn] at hn2
    have hn2 := Option.some.inj hn2
    have hlt : bs[i] < 256 := hb256 _ (List.getElem_mem hi)
    have hx64 := (numB_bits bs hb256 i (by omega)).2
    rw [show bs.take (i + 1) = bs.take i ++ [bs[i]] from by rw [List.take_add_one, hbi]; rfl, numB_snoc]
    generalize bs[i] = b at *
    subst hn2
    have hx64 : numB (bs.take i) < 2 ^ 64 := Nat.lt_of_lt_of_le hx64 (Nat.pow_le_pow_right (by decide) (by omega))
    generalize numB (bs.take i) = x at *
    refine s_asg (Ev.is (ev_I0 (ev_I (ev_var rfl) ev_c (show CPow (x : Int) 8 from ⟨by decide, by decide, by rw [Int.natAbs_natCast]; exact hx64⟩)) (ev_var rfl)) (congrArg V.int (a₂ := ((x * 2 ^ 8 + b : Nat) : Int)) ?_)) fun H9 e9 => ⟨_, rfl, e8.trans e9⟩
    show Builtin.bitOr ((x : Int) * 2 ^ 8) (b : Int) = _
    rw [_root_.Bits.bitOr_join' (by omega) (by show (b : Int) < 256; omega) (by omega)]
    show (b : Int) + (x : Int) * 256 = ((x * 256 + b : Nat) : Int)
    omega
  · rintro σ' H8 ⟨c, rfl, e8⟩
    rw [List.length_map, cs_len, List.take_length]
    have ex8 := (ex6.trans e7).trans e8
    refine q_fld T.cl_BitReader T.n_BitReader_position (v := .int ((pos + wd : Nat) : Int)) (ev_var rfl) (ev_var rfl) (ex8 _ _ ha) (Nat.le_of_ble_eq_true rfl) fun H9 e9 => ?_
    refine s_ret (v := .int ((valL (((ds.flatMap bits8).drop pos).take wd) : Nat) : Int)) (Ev.is (ev_I0 (ev_I (j := ((8 * ((pos + wd + 7) / 8) - (pos + wd) : Nat) : Int)) (ev_var rfl) (Ev.is (ev_I0 (ev_I (ev_var rfl) ev_c (.inr (by decide))) (ev_var rfl)) (congrArg V.int (by omega))) (by show (0 : Int) ≤ _; omega)) (ev_I0 (ev_I ev_c (ev_var rfl) (show CPow 1 (wd : Int) from ⟨by omega, by omega, by decide⟩)) ev_c)) (congrArg V.int ?_)) fun H10 e10 => ?_
    · rw [Int.toNat_natCast, Int.toNat_natCast, Int.one_mul, bitAnd_maskZ, pow_cast, pow_cast, hsb, Int.natCast_emod, Int.natCast_ediv]
    · exact k H10 (((FrA.ex ex8).trans (FrA.ex e9)).upd.trans (FrA.ex e10)) (RdAt.ex e10 ⟨dx, upd_same⟩)
def sp_place (C : Addr) (f : Nat → Int) : Sp := fun vs H Q _ => ∃ (a d : Addr) (pos : Nat), vs = [.ref a] ∧ RdAt C H a d pos ∧ RetV (.int (f pos)) H Q
theorem ok_BitReader_byte_place (T : TX K mg) : FnOk P w K mg base CX0 1 T.a_BitReader_byte_place T.d_BitReader_byte_place ["self"] (sp_place T.C_BitReader fun pos => (pos / 8 : Nat)) := by
  refine T.F_BitReader_byte_place.ok sc_BitReader_byte_place (fun vs H Q E h => by obtain ⟨a, d, pos, rfl, _⟩ := h; rfl) (fun cdv A outer s H vs Q E hr h => ?_)
  obtain ⟨a, d, pos, rfl, ⟨dx, ha⟩, k⟩ := h
  refine ⟨_, (pss_one (ps_ret (pe_op op_fdiv (pe_fld (pv 0) rfl) pe_int))), ?_⟩
  exact s_ret (Ev.is (ev_I (ev_fld T.cl_BitReader T.n_BitReader_position (v := .int (pos : Int)) (ev_var rfl) ha rfl) ev_c ⟨by decide, by decide⟩) (congrArg V.int (by show _ = ((pos / 8 : Nat) : Int); omega))) fun H1 e1 => k H1 e1
theorem ok_BitReader_bit_place (T : TX K mg) : FnOk P w K mg base CX0 1 T.a_BitReader_bit_place T.d_BitReader_bit_place ["self"] (sp_place T.C_BitReader fun pos => (pos : Nat)) := by
  refine T.F_BitReader_bit_place.ok sc_BitReader_bit_place (fun vs H Q E h => by obtain ⟨a, d, pos, rfl, _⟩ := h; rfl) (fun cdv A outer s H vs Q E hr h => ?_)
  obtain ⟨a, d, pos, rfl, ⟨dx, ha⟩, k⟩ := h
  refine ⟨_, (pss_one (ps_ret (pe_fld (pv 0) rfl))), ?_⟩
  exact s_ret (ev_fld T.cl_BitReader T.n_BitReader_position (v := .int (pos : Int)) (ev_var rfl) ha rfl) fun H1 e1 => k H1 e1
theorem ev_place {σ : L2.St} {H : Hp} {to : TE} {E : XK} {C a d : Addr} {pos : Nat} {m : Str} {f : Nat → Int} (h : Ev to σ H (.ref a)) (hR : RdAt C H a d pos) (hm : (rF d pos).lookup m = none) : Ev (tMeth C m (sp_place C f) [] E to tNil) σ H (.int (f pos)) := by
  obtain ⟨dx, ha⟩ := id hR
  exact ev_mth h ha hm ea_nil fun H1 e Q q _ => ⟨a, d, pos, rfl, hR.ex e, q⟩

theorem q_forRC {σ : L2.St} {H : Hp} {D : Ends} {tu tz : TS} {ta : TA} {j n : Nat} {a b c : Int} (h : EvA ta σ H [.int a, .int b, .int c]) (hr : RgC a b c n) (Pv : Nat → L2.St → Hp → Prop) (h0 : ∀ H1, Ex H H1 → Pv 0 σ H1)
    (hs : ∀ i σ' H', i < n → Pv i σ' H' → tu { nx := Pv (i + 1), rt := D.rt, bk := tz D, ct := Pv (i + 1) } (σ'.set j (some (.int (a + (i : Nat) * c)))) H') (hd : ∀ σ' H', Pv n σ' H' → tz D σ' H') : tSeq (tFor (iRng3 ta) (gName j) tu) tz D σ H :=
  h H (Ex.refl H) _ fun H1 e1 => ⟨a, b, c, n, rfl, hr, for_rangeC Pv (h0 H1 e1) hs hd⟩

/-! ### coded numbers -/
def sz (n : Nat) : Nat := if n < 128 then 0 else if n < 2048 then 1 else if n < 65536 then 2 else if n < 2097152 then 3 else if n < 67108864 then 4 else if n < 2147483648 then 5 else 6
def hdn (s : Nat) : Nat := [0, 192, 224, 240, 248, 252, 254].getD s 0
def lim (s : Nat) : Nat := [7, 11, 16, 21, 26, 31, 36].getD s 0
def rest (n s : Nat) : List Nat := (List.range s).map fun k => 128 + n / 2 ^ (6 * (s - 1 - k)) % 64
def form (n : Nat) : List Nat := (hdn (sz n) + n / 2 ^ (6 * sz n)) :: rest n (sz n)
theorem rest_len (n s : Nat) : (rest n s).length = s := by unfold rest; rw [List.length_map, List.length_range]
theorem form_len (n : Nat) : (form n).length = sz n + 1 := by unfold form; rw [List.length_cons, rest_len]
theorem sz_le (n : Nat) : sz n ≤ 6 := by
  unfold sz
  repeat' split
  all_goals omega
theorem sz_lim {n : Nat} (h : n < 2 ^ 36) {s : Nat} (hs : s ≤ 6) : n < 2 ^ lim s ↔ sz n ≤ s := by
  have h : n < 68719476736 := h
  unfold sz
  match s, hs with
  | 0, _ => show n < 128 ↔ _; repeat' split
            all_goals omega
  | 1, _ => show n < 2048 ↔ _; repeat' split
            all_goals omega
  | 2, _ => show n < 65536 ↔ _; repeat' split
            all_goals omega
  | 3, _ => show n < 2097152 ↔ _; repeat' split
            all_goals omega
  | 4, _ => show n < 67108864 ↔ _; repeat' split
            all_goals omega
  | 5, _ => show n < 2147483648 ↔ _; repeat' split
            all_goals omega
  | 6, _ => show n < 68719476736 ↔ _; repeat' split
            all_goals omega
theorem lim_eq {s : Nat} (h1 : 1 ≤ s) (h2 : s ≤ 6) : lim s = 5 * s + 6 := by
  match s, h1, h2 with
  | 1, _, _ => rfl
  | 2, _, _ => rfl
  | 3, _, _ => rfl
  | 4, _, _ => rfl
  | 5, _, _ => rfl
  | 6, _, _ => rfl
theorem hdn_eq {s : Nat} (h1 : 1 ≤ s) (h2 : s ≤ 6) : hdn s = 256 - 2 ^ (7 - s) := by
  match s, h1, h2 with
  | 1, _, _ => rfl
  | 2, _, _ => rfl
  | 3, _, _ => rfl
  | 4, _, _ => rfl
  | 5, _, _ => rfl
  | 6, _, _ => rfl
theorem head_lt {n : Nat} (h : n < 2 ^ 36) (h1 : 1 ≤ sz n) : n / 2 ^ (6 * sz n) < 2 ^ (6 - sz n) := by
  have h2 := (sz_lim h (sz_le n)).mpr (Nat.le_refl _)
  have h3 := sz_le n
  rw [lim_eq h1 h3, show 5 * sz n + 6 = 6 * sz n + (6 - sz n) by omega, Nat.pow_add] at h2
  exact Nat.div_lt_of_lt_mul h2
def sp_bound : Sp := fun vs H Q _ => ∃ c : Nat, vs = [.int (c : Int)] ∧ 1 ≤ c ∧ c ≤ 7 ∧ RetV (.int ((2 ^ (if c = 1 then 7 else 5 * c + 1) : Nat) : Int)) H Q
theorem ok_bound (T : TX K mg) : FnOk P w K mg base CX0 1 T.a_bound T.d_bound ["count"] sp_bound := by
  refine T.F_bound.ok sc_bound (fun vs H Q E h => by obtain ⟨c, rfl, _⟩ := h; rfl) (fun cdv A outer s H vs Q E hr h => ?_)
  obtain ⟨c, rfl, h1, h7, k⟩ := h
  refine ⟨_, (pss_cons (ps_if (pt_cmpR op_eq (pv 0) pe_int (nomark _)) (pss_one (ps_ret pe_int)) pss_nil)
      (pss_one (ps_ret (pe_op op_shl pe_int (pe_op op_add (pe_op op_mul pe_int (pv 0)) pe_int))))), ?_⟩
  refine q_when (b := decide (c = 1)) (et_test (Ev.is (ev_eq (ev_var rfl) ev_c rfl) (congrArg V.bl (decide_eq_decide.mpr ⟨fun h => by have := V.int.inj h; omega, fun h => by rw [h]; rfl⟩)))) (fun hb H1 e1 => ?_) (fun hb H1 e1 => ?_)
  · have hc : c = 1 := of_decide_eq_true hb
    subst hc
    exact s_ret (Ev.is ev_c rfl) fun H2 e2 => k H2 (e1.trans e2)
  · have hc : ¬ c = 1 := of_decide_eq_false hb
    rw [if_neg hc] at k
    exact s_ret (Ev.is (ev_I (j := ((5 * c + 1 : Nat) : Int)) ev_c (Ev.is (ev_I0 (ev_I ev_c (ev_var rfl) (.inl (by decide))) ev_c) (congrArg V.int (by omega))) (show CPow 1 ((5 * c + 1 : Nat) : Int) from ⟨by omega, by omega, by decide⟩)) (congrArg V.int (by rw [Int.toNat_natCast, Int.one_mul, pow_cast]))) fun H2 e2 => k H2 (e1.trans e2)
theorem ev_bound {σ : L2.St} {H : Hp} {te : TE} {E : XK} {c : Nat} {x : Int} (h : Ev te σ H (.int x)) (hx : x = (c : Int)) (h1 : 1 ≤ c) (h7 : c ≤ 7) : Ev (tCall sp_bound [] E (tCons te tNil)) σ H (.int ((2 ^ (if c = 1 then 7 else 5 * c + 1) : Nat) : Int)) := by
  subst hx
  exact ev_call (ea_cons h ea_nil) fun H1 _ Q q _ => ⟨c, rfl, h1, h7, q⟩
def sp_least : Sp := fun vs H Q _ => ∃ c : Nat, vs = [.int (c : Int)] ∧ 2 ≤ c ∧ c ≤ 8 ∧ RetV (.int ((256 - 2 ^ (8 - c) : Nat) : Int)) H Q
theorem ok_least_first (T : TX K mg) : FnOk P w K mg base CX0 1 T.a_least_first T.d_least_first ["count"] sp_least := by
  refine T.F_least_first.ok sc_least_first (fun vs H Q E h => by obtain ⟨c, rfl, _⟩ := h; rfl) (fun cdv A outer s H vs Q E hr h => ?_)
  obtain ⟨c, rfl, h1, h7, k⟩ := h
  refine ⟨_, (pss_one (ps_ret (pe_op op_sub pe_int (pe_op op_shl pe_int (pe_op op_sub pe_int (pv 0)))))), ?_⟩
  have h3 : 2 ^ (8 - c) ≤ 2 ^ 6 := Nat.pow_le_pow_right (by decide) (by omega)
  exact s_ret (Ev.is (ev_I0 ev_c (ev_I (j := ((8 - c : Nat) : Int)) ev_c (Ev.is (ev_I0 ev_c (ev_var rfl)) (congrArg V.int (by omega))) (show CPow 1 ((8 - c : Nat) : Int) from ⟨by omega, by omega, by decide⟩))) (congrArg V.int (by rw [Int.toNat_natCast, Int.one_mul, pow_cast]; omega))) fun H2 e2 => k H2 e2
theorem ev_least {σ : L2.St} {H : Hp} {te : TE} {E : XK} {c : Nat} {x : Int} (h : Ev te σ H (.int x)) (hx : x = (c : Int)) (h1 : 2 ≤ c) (h7 : c ≤ 8) : Ev (tCall sp_least [] E (tCons te tNil)) σ H (.int ((256 - 2 ^ (8 - c) : Nat) : Int)) := by
  subst hx
  exact ev_call (ea_cons h ea_nil) fun H1 _ Q q _ => ⟨c, rfl, h1, h7, q⟩
theorem ev_six {σ : L2.St} {H : Hp} {t1 t2 : TE} {n m : Nat} {j : Int} (h1 : Ev t1 σ H (.int (n : Int))) (h2 : Ev t2 σ H (.int j)) (hj : j = (m : Int)) : Ev (tOp (rI0 fun i j => .int (Builtin.bitAnd i j)) (tOp (rI (fun _ j => 0 ≤ j) fun i j => .int (i / 2 ^ j.toNat)) t1 t2) (tC (.int 63))) σ H (.int ((n / 2 ^ m % 64 : Nat) : Int)) := by
  subst hj
  exact Ev.is (ev_I0 (ev_I h1 h2 (by show (0 : Int) ≤ _; omega)) ev_c) (congrArg V.int (by rw [Int.toNat_natCast, PyProof.Rows.bitAnd_m6, pow_cast, Int.natCast_emod, Int.natCast_ediv]; rfl))
theorem ev_shr {σ : L2.St} {H : Hp} {t1 t2 : TE} {n m : Nat} {j : Int} (h1 : Ev t1 σ H (.int (n : Int))) (h2 : Ev t2 σ H (.int j)) (hj : j = (m : Int)) : Ev (tOp (rI (fun _ j => 0 ≤ j) fun i j => .int (i / 2 ^ j.toNat)) t1 t2) σ H (.int ((n / 2 ^ m : Nat) : Int)) := by
  subst hj
  exact Ev.is (ev_I h1 h2 (by show (0 : Int) ≤ _; omega)) (congrArg V.int (by rw [Int.toNat_natCast, pow_cast, Int.natCast_ediv]))
def sp_wnum : Sp := fun vs H Q _ => ∃ n : Nat, vs = [.int (n : Int)] ∧ n < 2 ^ 36 ∧ ∀ p H', H p = none → Ex H H' → H' p = some (.lst ((cs (form n)).map V.int)) → Q (.ref p) H'
theorem ok_write_number (T : TX K mg) : FnOk P w K mg base CX0 2 T.a_write_number T.d_write_number ["number"] sp_wnum := by
  refine T.F_write_number.ok sc_write_number (fun vs H Q E h => by obtain ⟨n, rfl, _⟩ := h; rfl) (fun cdv A outer s H vs Q E hr h => ?_)
  obtain ⟨n, rfl, hn, k⟩ := h
  refine ⟨_, (pss_cons (ps_if (pt_cmpR op_lt (pv 0) pe_int (nomark _)) (pss_one (ps_ret (pe_lst (pa_cons (pv 0) pa_nil)))) pss_nil)
      (pss_cons (ps_set (i := 1) sc_write_number.nd rfl (Or.inl rfl) pe_int)
      (pss_cons (ps_while PassesOwn.never (PW.pt (pw_and (pt_cmpR op_lt (pv 1) pe_int (nomark _)) (pw_and1 (pt_cmpR op_ge (pv 0) (pe_call (ok_bound T) (hr.mono (by decide)) (by rfl) T.g_bound T.F_bound.kp T.b_bound .nil pass0 (pa_cons (pv 1) pa_nil)) (nomark _))))) (pss_one (ps_aug (i := 1) sc_write_number.nd rfl (Or.inl rfl) pe_int ip_add)))
      (pss_cons (ps_set (i := 2) sc_write_number.nd rfl (Or.inl rfl) (pe_lst (pa_cons (pe_op op_add (pe_call (ok_least_first T) (hr.mono (by decide)) (by rfl) T.g_least_first T.F_least_first.kp T.b_least_first .nil pass0 (pa_cons (pv 1) pa_nil)) (pe_op op_shr (pv 0) (pe_op op_mul pe_int (pe_op op_sub (pv 1) pe_int)))) pa_nil)))
      (pss_cons (ps_for PassesOwn.never rfl (pi_range3 (by rfl) T.m_range (pa_cons (pe_op op_sub (pv 1) pe_int) (pa_cons (pe_un un_neg pe_int) (pa_cons (pe_un un_neg pe_int) pa_nil)))) (pg_name (i := 3) sc_write_number.nd rfl (Or.inl rfl)) (pss_one (ps_expr (pe_bm PySem.F.plainAttrs_list PySem.F.slot_list_append PySem.F.type_list_append mt_append (pv 2) (pa_cons (pe_op op_add pe_int (pe_op op_and (pe_op op_shr (pv 0) (pe_op op_mul pe_int (pv 3))) pe_int)) pa_nil)))))
      (pss_one (ps_ret (pv 2)))))))), ?_⟩
  have h6 := sz_le n
  refine q_when (b := decide (sz n = 0)) (et_test (Ev.is (ev_I0 (ev_var rfl) ev_c) (congrArg V.bl (decide_eq_decide.mpr (by
    have h0 := sz_lim hn (s := 0) (by decide)
    have h0 : n < 128 ↔ sz n ≤ 0 := h0
    show (n : Int) < 128 ↔ _
    omega))))) (fun hb H1 e1 => ?_) (fun hb H1 e1 => ?_)
  · have h0 : sz n = 0 := of_decide_eq_true hb
    refine s_retL (el_lst (ea_cons (ev_var rfl) ea_nil) (Nat.le_of_ble_eq_true rfl)) fun p H2 hp e2 g2 => ?_
    refine k p H2 (by cases h : H p with | none => rfl | some o => rw [e1 _ _ h] at hp; cases hp) (e1.trans e2) ?_
    unfold form
    rw [h0, Nat.mul_zero, Nat.pow_zero, Nat.div_one, show hdn 0 = 0 from rfl, Nat.zero_add]
    exact g2
  · have h1 : 1 ≤ sz n := by have := of_decide_eq_false hb; omega
    walk_at "asg"
    intro H2 e2
    refine q_while (fun m σ' H' => ∃ c : Nat, m = 7 - c ∧ 2 ≤ c ∧ c ≤ sz n + 1 ∧ σ' = [some (.int (n : Int)), some (.int (c : Int)), none, none] ∧ Ex H H') 5 ⟨2, rfl, Nat.le_refl _, by omega, rfl, e1.trans e2⟩ ?_
    rintro m _ H3 ⟨c, rfl, hc2, hc, rfl, ex⟩
    have hlast : c < 7 → (((2 ^ (if c = 1 then 7 else 5 * c + 1) : Nat) : Int) ≤ (n : Int) ↔ c ≤ sz n) := fun h7 => by
      have h0 := sz_lim hn (s := c - 1) (by omega)
      rw [lim_eq (by omega) (by omega), show 5 * (c - 1) + 6 = 5 * c + 1 by omega] at h0
      rw [if_neg (by omega)]
      omega
    refine ⟨decide (c < 7) && decide (c ≤ sz n), et_and (et_test (Ev.is (ev_I0 (ev_var rfl) ev_c) (congrArg V.bl (decide_eq_decide.mpr (by show (c : Int) < 7 ↔ _; omega))))) (fun hc7 => et_test (Ev.is (ev_I0 (ev_var rfl) (ev_bound (c := c) (ev_var rfl) rfl (by omega) (by omega))) (congrArg V.bl (decide_eq_decide.mpr (hlast (of_decide_eq_true hc7)))))), fun hb H4 e4 => ?_, fun hb H4 e4 => ?_⟩
    · rw [Bool.and_eq_true] at hb
      have hcs : c ≤ sz n := of_decide_eq_true hb.2
      refine ⟨fun σ2 H2 => ∃ m', m' < 7 - c ∧ _, fun σ2 H2 h => h, ?_⟩
      refine s_aug (b := 1) rfl ev_c fun H5 e5 => ?_
      exact ⟨7 - (c + 1), by omega, c + 1, rfl, by omega, by omega, rfl, ex.trans (e4.trans e5)⟩
    · have hcc : c = sz n + 1 := by
        by_cases h : c ≤ sz n
        · rw [decide_eq_true h, decide_eq_true (by omega)] at hb
          cases hb
        · omega
      subst hcc
      have ex4 := ex.trans e4
      refine q_asgL (xs := (cs [hdn (sz n) + n / 2 ^ (6 * sz n)]).map V.int) (el_lst (vs := [.int ((hdn (sz n) + n / 2 ^ (6 * sz n) : Nat) : Int)]) (ea_cons (Ev.is (ev_I0 (ev_least (c := sz n + 1) (ev_var rfl) rfl (by omega) (by omega)) (ev_shr (m := 6 * sz n) (ev_var rfl) (ev_I ev_c (ev_I0 (ev_var rfl) ev_c) (.inl (by decide))) (by omega))) (congrArg V.int (by rw [hdn_eq h1 h6, show 8 - (sz n + 1) = 7 - sz n by omega]; omega))) ea_nil) (Nat.le_of_ble_eq_true rfl)) fun p H5 hp e5 g5 => ?_
      have hp0 : H p = none := by cases h : H p with | none => rfl | some o => rw [ex4 _ _ h] at hp; cases hp
      refine q_forRC (n := sz n) (a := (sz n : Int) - 1) (b := -1) (c := -1) (ea_cons (Ev.is (ev_I0 (ev_var rfl) ev_c) (congrArg V.int (by omega))) (ea_cons (ev_negI ev_c) (ea_cons (ev_negI ev_c) ea_nil))) (by have h := RgC.neg (i := (sz n : Int) - 1) (j := -1) (by omega) (by omega) (by omega) (by omega); rwa [show ((sz n : Int) - 1 - -1).toNat = sz n by omega] at h) (fun i σ' H' => ∃ z, σ' = [some (.int (n : Int)), some (.int ((sz n + 1 : Nat) : Int)), some (.ref p), z] ∧ Ex H H' ∧ H' p = some (.lst ((cs ((hdn (sz n) + n / 2 ^ (6 * sz n)) :: (rest n (sz n)).take i)).map V.int))) (fun H6 e6 => ⟨none, rfl, ex4.trans (e5.trans e6), e6 _ _ g5⟩) ?_ ?_
      · rintro i σ' H6 hi ⟨z, rfl, ex6, g6⟩
        have hat : (rest n (sz n))[i]? = some (128 + n / 2 ^ (6 * (sz n - 1 - i)) % 64) := by
          unfold rest
          rw [List.getElem?_map, List.getElem?_range hi]
          rfl
        refine s_app (v := .int ((128 + n / 2 ^ (6 * (sz n - 1 - i)) % 64 : Nat) : Int)) g6 (ev_var rfl) (Ev.is (ev_I0 ev_c (ev_six (m := 6 * (sz n - 1 - i)) (ev_var rfl) (ev_I ev_c (ev_var rfl) (.inl (by decide))) (by omega))) (congrArg V.int (by omega))) (by rw [List.length_map, cs_len, List.length_cons, List.length_take, rest_len]; omega) fun H7 e7 => ?_
        refine ⟨_, rfl, Ex.mut (ex6.trans e7) hp0, ?_⟩
        rw [upd_same, List.take_add_one, hat]
        show _ = some (HO.lst ((cs ((hdn (sz n) + n / 2 ^ (6 * sz n)) :: ((rest n (sz n)).take i ++ [128 + n / 2 ^ (6 * (sz n - 1 - i)) % 64]))).map V.int))
        rw [← List.cons_append, cs_append, List.map_append]
        rfl
      · rintro σ' H6 ⟨z, rfl, ex6, g6⟩
        rw [List.take_of_length_le (by rw [rest_len]; exact Nat.le_refl _)] at g6
        walk_at "ret"
        intro H7 e7
        exact k p H7 hp0 (ex6.trans e7) (e7 _ _ g6)
/-- the law's form -/
theorem el_form {σ : L2.St} {H : Hp} {te : TE} {E : XK} {n : Nat} (hn : n < 2 ^ 36) (h : Ev te σ H (.int (n : Int))) : EvL (tCall sp_wnum [] E (tCons te tNil)) σ H ((cs (form n)).map V.int) := el_call (ea_cons h ea_nil) fun H1 _ Q q _ => ⟨n, rfl, hn, q⟩
/-! ### reading -/
def sp_told : Sp := fun vs H Q _ => ∃ (f s : Nat), vs = [.int (f : Int)] ∧ 1 ≤ s ∧ s ≤ 6 ∧ hdn s ≤ f ∧ f < hdn s + 2 ^ (6 - s) ∧ RetV (.int ((s + 1 : Nat) : Int)) H Q
theorem ok_count_told (T : TX K mg) : FnOk P w K mg base CX0 2 T.a_count_told T.d_count_told ["first"] sp_told := by
  refine T.F_count_told.ok sc_count_told (fun vs H Q E h => by obtain ⟨f, s, rfl, _⟩ := h; rfl) (fun cdv A outer s H vs Q E hr h => ?_)
  obtain ⟨f, s, rfl, h1, h6, hlo, hhi, k⟩ := h
  refine ⟨_, (pss_cons (ps_set (i := 1) sc_count_told.nd rfl (Or.inl rfl) pe_int)
      (pss_cons (ps_while PassesOwn.never (pt_cmpR op_ge (pv 0) (pe_call (ok_least_first T) (hr.mono (by decide)) (by rfl) T.g_least_first T.F_least_first.kp T.b_least_first .nil pass0 (pa_cons (pe_op op_add (pv 1) pe_int) pa_nil)) (nomark _)) (pss_one (ps_aug (i := 1) sc_count_told.nd rfl (Or.inl rfl) pe_int ip_add)))
      (pss_one (ps_ret (pv 1))))), ?_⟩
  walk_at "asg"
  intro H1 e1
  refine q_while (fun m σ' H' => ∃ c : Nat, m = 7 - c ∧ 2 ≤ c ∧ c ≤ s + 1 ∧ σ' = [some (.int (f : Int)), some (.int (c : Int))] ∧ Ex H H') 5 ⟨2, rfl, Nat.le_refl _, by omega, rfl, e1⟩ ?_
  rintro m _ H3 ⟨c, rfl, hc2, hc, rfl, ex⟩
  have hlast : (256 - 2 ^ (8 - (c + 1))) ≤ f ↔ c ≤ s := by
    rw [hdn_eq h1 h6] at hlo hhi
    have hp : 2 ^ (7 - s) = 2 * 2 ^ (6 - s) := by rw [show 7 - s = (6 - s) + 1 by omega, Nat.pow_succ, Nat.mul_comm]
    have h64 : 2 ^ (6 - s) ≤ 2 ^ 5 := Nat.pow_le_pow_right (by decide) (by omega)
    constructor
    · intro h
      by_cases hcs : c ≤ s
      · exact hcs
      · have : c = s + 1 := by omega
        rw [this, show 8 - (s + 1 + 1) = 6 - s by omega] at h
        omega
    · intro h
      have h3 : 2 ^ (7 - s) ≤ 2 ^ (8 - (c + 1)) := Nat.pow_le_pow_right (by decide) (by omega)
      omega
  refine ⟨decide (c ≤ s), et_test (Ev.is (ev_I0 (ev_var rfl) (ev_least (c := c + 1) (ev_I0 (ev_var rfl) ev_c) (by omega) (by omega) (by omega))) (congrArg V.bl (decide_eq_decide.mpr (by rw [← hlast]; show ((256 - 2 ^ (8 - (c + 1)) : Nat) : Int) ≤ (f : Int) ↔ _; omega)))), fun hb H4 e4 => ?_, fun hb H4 e4 => ?_⟩
  · have hcs : c ≤ s := of_decide_eq_true hb
    refine ⟨fun σ2 H2 => ∃ m', m' < 7 - c ∧ _, fun σ2 H2 h => h, ?_⟩
    refine s_aug (b := 1) rfl ev_c fun H5 e5 => ?_
    exact ⟨7 - (c + 1), by omega, c + 1, rfl, by omega, by omega, rfl, ex.trans (e4.trans e5)⟩
  · have hcc : c = s + 1 := by have := of_decide_eq_false hb; omega
    subst hcc
    walk_at "ret"
    intro H5 e5
    exact k H5 ((ex.trans e4).trans e5)
/-- a byte that is read -/
theorem byte_at {ds : List Nat} {i b : Nat} (hb : ds[i]? = some b) (h : b < 256) : valL (((ds.flatMap bits8).drop (8 * i)).take 8) = b := by
  have hi : i < ds.length := (List.getElem?_eq_some_iff.mp hb).1
  rw [flat_drop, show (8 : Nat) = 8 * 1 from rfl, flat_take, List.drop_eq_getElem_cons hi, List.take_succ_cons, List.take_zero, List.flatMap_cons, List.flatMap_nil, List.append_nil]
  have : ds[i] = b := by
    have h2 := List.getElem?_eq_getElem hi
    rw [hb] at h2
    exact (Option.some.inj h2).symm
  rw [this, valL_8 b h]
theorem q_read8 {σ : L2.St} {H : Hp} {D : Ends} {tz : TS} {to : TE} {E : XK} {C a d : Addr} {ds : List Nat} {i b j : Nat} (h : Ev to σ H (.ref a)) (hR : RdAt C H a d (8 * i)) (hd : H d = some (.lst ((cs ds).map V.int))) (hds : ∀ b ∈ ds, b < 256) (hl : ds.length ≤ 100000) (hb : ds[i]? = some b)
    (k : ∀ H1, FrA a H H1 → RdAt C H1 a d (8 * (i + 1)) → H1 d = some (.lst ((cs ds).map V.int)) → tz D (σ.set j (some (.int (b : Int)))) H1) : tSeq (tAsg (tMeth C "read" (sp_read C) [] E to (tCons (tC (.int 8)) tNil)) (gName j)) tz D σ H := by
  obtain ⟨dx, ha⟩ := id hR
  have hi : i < ds.length := (List.getElem?_eq_some_iff.mp hb).1
  refine q_asgM (vs := [.int 8]) h ha rfl (ea_cons ev_c ea_nil) fun H1 e1 => ⟨a, d, ds, 8 * i, 8, rfl, hR.ex e1, e1 _ _ hd, hds, by decide, by omega, hl, fun H2 hF hR2 => ?_⟩
  rw [byte_at hb (hds b (List.mem_of_getElem? hb))]
  exact k H2 ((FrA.ex e1).trans hF) hR2 (hF _ _ (hR.ne hd) (e1 _ _ hd))
def sp_further (C : Addr) : Sp := fun vs H Q _ => ∃ (a d : Addr) (ds : List Nat) (i x : Nat), vs = [.ref a] ∧ RdAt C H a d (8 * i) ∧ H d = some (.lst ((cs ds).map V.int)) ∧ (∀ b ∈ ds, b < 256) ∧ ds.length ≤ 100000 ∧ x < 64 ∧ ds[i]? = some (128 + x) ∧ ∀ H', FrA a H H' → RdAt C H' a d (8 * (i + 1)) → H' d = some (.lst ((cs ds).map V.int)) → Q (.int (x : Int)) H'
theorem ok_further_bits (T : TX K mg) : FnOk P w K mg base CX0 2 T.a_further_bits T.d_further_bits ["reader"] (sp_further T.C_BitReader) := by
  refine T.F_further_bits.ok sc_further_bits (fun vs H Q E h => by obtain ⟨a, d, ds, i, x, rfl, _⟩ := h; rfl) (fun cdv A outer s H vs Q E hr h => ?_)
  obtain ⟨a, d, ds, i, x, rfl, hR, hd, hds, hl, hx, hb, k⟩ := h
  refine ⟨_, (pss_cons (ps_set (i := 1) sc_further_bits.nd rfl (Or.inl rfl) (pe_meth0 (pv 0) T.cl_BitReader T.me_BitReader_byte_place (ok_BitReader_byte_place T) (hr.mono (by decide)) T.b_BitReader_byte_place .nil pass0))
      (pss_cons (ps_set (i := 2) sc_further_bits.nd rfl (Or.inl rfl) (pe_meth (pv 0) T.cl_BitReader T.me_BitReader_read (ok_BitReader_read T) (hr.mono (by decide)) T.b_BitReader_read .nil pass0 (pa_cons pe_int pa_nil)))
      (pss_cons (ps_if (PW.pt (pw_or (pt_cmpR op_lt (pv 2) pe_int (nomark _)) (pw_or1 (pt_cmpR op_gt (pv 2) pe_int (nomark _))))) (pss_one ps_never) pss_nil)
      (pss_one (ps_ret (pe_op op_sub (pv 2) pe_int)))))), ?_⟩
  refine q_asg (ev_place (f := fun pos => (pos / 8 : Nat)) (ev_var rfl) hR rfl) fun H1 e1 => ?_
  refine q_read8 (ev_var rfl) (hR.ex e1) (e1 _ _ hd) hds hl hb fun H2 hF hR2 hd2 => ?_
  refine q_when (b := false) (et_or (a := false) (b := false) (et_test (Ev.is (ev_I0 (ev_var rfl) ev_c) (congrArg V.bl (decide_eq_false (by omega))))) fun _ => et_test (Ev.is (ev_I0 (ev_var rfl) ev_c) (congrArg V.bl (decide_eq_false (by show ¬ _; omega))))) (fun hb => by cases hb) fun _ H3 e3 => ?_
  exact s_ret (v := .int (x : Int)) (Ev.is (ev_I0 (ev_var rfl) ev_c) (congrArg V.int (by omega))) fun H4 e4 => k H4 (((FrA.ex e1).trans hF).trans (FrA.ex (e3.trans e4))) (hR2.ex (e3.trans e4)) ((e3.trans e4) _ _ hd2)
theorem s_asgRd {σ : L2.St} {H : Hp} {D : Ends} {t1 t2 : TE} {E : XK} {C a d : Addr} {ds : List Nat} {i x y k : Nat} (hx : x < 2 ^ 64) (h1 : Ev t1 σ H (.int (x : Int))) (h2 : Ev t2 σ H (.ref a)) (hR : RdAt C H a d (8 * i)) (hd : H d = some (.lst ((cs ds).map V.int))) (hds : ∀ b ∈ ds, b < 256) (hl : ds.length ≤ 100000) (hy : y < 64) (hb : ds[i]? = some (128 + y))
    (kk : ∀ H1, FrA a H H1 → RdAt C H1 a d (8 * (i + 1)) → H1 d = some (.lst ((cs ds).map V.int)) → D.nx (σ.set k (some (.int ((x * 64 + y : Nat) : Int)))) H1) :
    tAsg (tOp (rI0 fun i j => .int (Builtin.bitOr i j)) (tOp (rI CPow fun i j => .int (i * 2 ^ j.toNat)) t1 (tC (.int 6))) (tCall (sp_further C) [] E (tCons t2 tNil))) (gName k) D σ H :=
  h1 H (Ex.refl H) _ fun H1 e1 => ⟨(x : Int), 6, rfl, rfl, ⟨by decide, by decide, by rw [Int.natAbs_natCast]; exact hx⟩, h2 H1 e1 _ fun H2 e2 => ⟨a, d, ds, i, y, rfl, hR.ex (e1.trans e2), (e1.trans e2) _ _ hd, hds, hl, hy, hb, fun H3 hF hR3 hd3 => ⟨_, _, rfl, rfl, by
    have e : Builtin.bitOr ((x : Int) * 2 ^ (6 : Int).toNat) (y : Int) = ((x * 64 + y : Nat) : Int) := by
      show Builtin.bitOr ((x : Int) * 2 ^ 6) (y : Int) = _
      rw [_root_.Bits.bitOr_join' (by omega) (by show (y : Int) < 64; omega) (by omega)]
      show (y : Int) + (x : Int) * 64 = _
      omega
    show D.nx (σ.set k (some (.int (Builtin.bitOr ((x : Int) * 2 ^ (6 : Int).toNat) (y : Int))))) H3
    rw [e]
    exact kk H3 ((FrA.ex (e1.trans e2)).trans hF) hR3 hd3⟩⟩⟩
def sp_rnum (C : Addr) : Sp := fun vs H Q _ => ∃ (a d : Addr) (ds : List Nat) (i n : Nat), vs = [.ref a] ∧ RdAt C H a d (8 * i) ∧ H d = some (.lst ((cs ds).map V.int)) ∧ (∀ b ∈ ds, b < 256) ∧ ds.length ≤ 100000 ∧ n < 2 ^ 36 ∧ (∀ j x, (form n)[j]? = some x → ds[i + j]? = some x) ∧ ∀ H', FrA a H H' → RdAt C H' a d (8 * (i + (sz n + 1))) → H' d = some (.lst ((cs ds).map V.int)) → Q (.int (n : Int)) H'
theorem ok_number_ahead (T : TX K mg) : FnOk P w K mg base CX0 3 T.a_number_ahead T.d_number_ahead ["reader"] (sp_rnum T.C_BitReader) := by
  refine T.F_number_ahead.ok sc_number_ahead (fun vs H Q E h => by obtain ⟨a, d, ds, i, n, rfl, _⟩ := h; rfl) (fun cdv A outer s H vs Q E hr h => ?_)
  obtain ⟨a, d, ds, i, n, rfl, hR, hd, hds, hl, hn, hf, k⟩ := h
  refine ⟨_, (pss_cons (ps_set (i := 1) sc_number_ahead.nd rfl (Or.inl rfl) (pe_meth0 (pv 0) T.cl_BitReader T.me_BitReader_byte_place (ok_BitReader_byte_place T) (hr.mono (by decide)) T.b_BitReader_byte_place .nil pass0))
      (pss_cons (ps_set (i := 2) sc_number_ahead.nd rfl (Or.inl rfl) (pe_meth (pv 0) T.cl_BitReader T.me_BitReader_read (ok_BitReader_read T) (hr.mono (by decide)) T.b_BitReader_read .nil pass0 (pa_cons pe_int pa_nil)))
      (pss_cons (ps_if (pt_cmpR op_lt (pv 2) pe_int (nomark _)) (pss_one (ps_ret (pv 2))) pss_nil)
      (pss_cons (ps_if (PW.pt (pw_or (pt_cmpR op_lt (pv 2) pe_int (nomark _)) (pw_or1 (pt_cmpR op_eq (pv 2) pe_int (nomark _))))) (pss_one ps_never) pss_nil)
      (pss_cons (ps_set (i := 3) sc_number_ahead.nd rfl (Or.inl rfl) (pe_call (ok_count_told T) (hr.mono (by decide)) (by rfl) T.g_count_told T.F_count_told.kp T.b_count_told .nil pass0 (pa_cons (pv 2) pa_nil)))
      (pss_cons (ps_set (i := 4) sc_number_ahead.nd rfl (Or.inl rfl) (pe_op op_sub (pv 2) (pe_call (ok_least_first T) (hr.mono (by decide)) (by rfl) T.g_least_first T.F_least_first.kp T.b_least_first .nil pass0 (pa_cons (pv 3) pa_nil))))
      (pss_cons (ps_for PassesOwn.never rfl (pi_range1 (by rfl) T.m_range (pa_cons (pe_op op_sub (pv 3) pe_int) pa_nil)) (pg_name (i := 5) sc_number_ahead.nd rfl (Or.inl rfl)) (pss_one (ps_set (i := 4) sc_number_ahead.nd rfl (Or.inl rfl) (pe_op op_or (pe_op op_shl (pv 4) pe_int) (pe_call (ok_further_bits T) (hr.mono (by decide)) (by rfl) T.g_further_bits T.F_further_bits.kp T.b_further_bits .nil pass0 (pa_cons (pv 0) pa_nil))))))
      (pss_cons (ps_if (pt_cmpR op_lt (pv 4) (pe_call (ok_bound T) (hr.mono (by decide)) (by rfl) T.g_bound T.F_bound.kp T.b_bound .nil pass0 (pa_cons (pe_op op_sub (pv 3) pe_int) pa_nil)) (nomark _)) (pss_one ps_never) pss_nil)
      (pss_one (ps_ret (pv 4))))))))))), ?_⟩
  have h6 := sz_le n
  have hf0 : ds[i]? = some (hdn (sz n) + n / 2 ^ (6 * sz n)) := hf 0 _ rfl
  refine q_asg (ev_place (f := fun pos => (pos / 8 : Nat)) (ev_var rfl) hR rfl) fun H1 e1 => ?_
  refine q_read8 (ev_var rfl) (hR.ex e1) (e1 _ _ hd) hds hl hf0 fun H2 hF hR2 hd2 => ?_
  have hF2 := (FrA.ex e1).trans hF
  by_cases h0 : sz n = 0
  · have hn128 : n < 128 := (sz_lim hn (s := 0) (by decide)).mpr (by omega)
    rw [h0] at k ⊢
    rw [Nat.mul_zero, Nat.pow_zero, Nat.div_one, show hdn 0 = 0 from rfl, Nat.zero_add]
    refine q_when (b := true) (et_test (Ev.is (ev_I0 (ev_var rfl) ev_c) (congrArg V.bl (decide_eq_true (by omega))))) (fun _ H3 e3 => ?_) (fun hb => by cases hb)
    exact s_ret (ev_var rfl) fun H4 e4 => k H4 (hF2.trans (FrA.ex (e3.trans e4))) (hR2.ex (e3.trans e4)) ((e3.trans e4) _ _ hd2)
  have h1 : 1 ≤ sz n := by omega
  have hhead := head_lt hn h1
  have hhd := hdn_eq h1 h6
  have hp7 : 2 ^ (7 - sz n) = 2 * 2 ^ (6 - sz n) := by rw [show 7 - sz n = (6 - sz n) + 1 by omega, Nat.pow_succ, Nat.mul_comm]
  have hp6 : 2 ^ (6 - sz n) ≤ 2 ^ 5 := Nat.pow_le_pow_right (by decide) (by omega)
  have hp0 : 0 < 2 ^ (6 - sz n) := Nat.two_pow_pos _
  obtain ⟨q, hq⟩ : ∃ q, n / 2 ^ (6 * sz n) = q := ⟨_, rfl⟩
  rw [hq] at hf0 hhead
  rw [hq]
  have hfirst : 192 ≤ hdn (sz n) + q ∧ hdn (sz n) + q < 255 := by omega
  generalize hfv : hdn (sz n) + q = f at *
  refine q_when (b := false) (et_test (Ev.is (ev_I0 (ev_var rfl) ev_c) (congrArg V.bl (decide_eq_false (by omega))))) (fun hb => by cases hb) fun _ H3 e3 => ?_
  refine q_when (b := false) (et_or (a := false) (b := false) (et_test (Ev.is (ev_I0 (ev_var rfl) ev_c) (congrArg V.bl (decide_eq_false (by omega))))) fun _ => et_test (Ev.is (ev_eq (ev_var rfl) ev_c rfl) (congrArg V.bl (decide_eq_false fun h => by have := V.int.inj h; omega)))) (fun hb => by cases hb) fun _ H4 e4 => ?_
  refine q_asg (ev_call (z := .int ((sz n + 1 : Nat) : Int)) (vs := [.int (f : Int)]) (ea_cons (ev_var rfl) ea_nil) fun H5 _ Q q _ => ⟨f, sz n, rfl, h1, h6, by omega, by omega, q⟩) fun H5 e5 => ?_
  refine q_asg (v := .int (q : Int)) (Ev.is (ev_I0 (ev_var rfl) (ev_least (c := sz n + 1) (ev_var rfl) rfl (by omega) (by omega))) (congrArg V.int (by rw [show 8 - (sz n + 1) = 7 - sz n by omega]; omega))) fun H6 e6 => ?_
  have ex6 := (e3.trans e4).trans (e5.trans e6)
  refine q_forR1 (n := (sz n : Int)) (ea_cons (Ev.is (ev_I0 (ev_var rfl) ev_c) (congrArg V.int (by omega))) ea_nil) (by omega) (fun j σ' H' => ∃ z, σ' = [some (.ref a), some (.int ((fun pos => ((pos / 8 : Nat) : Int)) (8 * i))), some (.int (f : Int)), some (.int ((sz n + 1 : Nat) : Int)), some (.int ((n / 2 ^ (6 * (sz n - j)) : Nat) : Int)), z] ∧ FrA a H H' ∧ RdAt T.C_BitReader H' a d (8 * (i + 1 + j)) ∧ H' d = some (.lst ((cs ds).map V.int))) (fun H7 e7 => ⟨none, by rw [Nat.sub_zero, hq]; rfl, hF2.trans (FrA.ex (ex6.trans e7)), hR2.ex (ex6.trans e7), (ex6.trans e7) _ _ hd2⟩) ?_ ?_
  · rintro j σ' H7 hj ⟨z, rfl, hF7, hR7, hd7⟩
    have hj : j < sz n := by omega
    have hat : (form n)[j + 1]? = some (128 + n / 2 ^ (6 * (sz n - 1 - j)) % 64) := by
      show (rest n (sz n))[j]? = _
      unfold rest
      rw [List.getElem?_map, List.getElem?_range hj]
      rfl
    have hdj := hf _ _ hat
    have hx : n / 2 ^ (6 * (sz n - j)) < 2 ^ 36 := Nat.lt_of_le_of_lt (Nat.div_le_self _ _) hn
    have hstep : n / 2 ^ (6 * (sz n - (j + 1))) = n / 2 ^ (6 * (sz n - j)) * 64 + n / 2 ^ (6 * (sz n - 1 - j)) % 64 := by
      rw [show sz n - 1 - j = sz n - (j + 1) by omega, show 6 * (sz n - j) = 6 * (sz n - (j + 1)) + 6 by omega, Nat.pow_add, ← Nat.div_div_eq_div_mul]
      show _ = _ / 64 * 64 + _
      omega
    refine s_asgRd (x := n / 2 ^ (6 * (sz n - j))) (y := n / 2 ^ (6 * (sz n - 1 - j)) % 64) (by omega) (ev_var rfl) (ev_var rfl) hR7 hd7 hds hl (by omega) (by rw [← hdj]; congr 1; omega) fun H8 hF8 hR8 hd8 => ?_
    rw [hstep]
    exact ⟨_, rfl, hF7.trans hF8, hR8, hd8⟩
  · rintro σ' H7 ⟨z, rfl, hF7, hR7, hd7⟩
    rw [Int.toNat_natCast, Nat.sub_self, Nat.mul_zero, Nat.pow_zero, Nat.div_one]
    have hbd : ¬ n < 2 ^ (if sz n = 1 then 7 else 5 * sz n + 1) := by
      have h3 := sz_lim hn (s := sz n - 1) (by omega)
      by_cases h : sz n = 1
      · rw [if_pos h]
        rw [h] at h3
        have h3 : n < 2 ^ 7 ↔ sz n ≤ 0 := by rw [h]; exact h3
        omega
      · rw [if_neg h]
        rw [lim_eq (by omega) (by omega), show 5 * (sz n - 1) + 6 = 5 * sz n + 1 by omega] at h3
        omega
    refine q_when (b := false) (et_test (Ev.is (ev_I0 (ev_var rfl) (ev_bound (c := sz n) (ev_I0 (ev_var rfl) ev_c) (by omega) h1 (by omega))) (congrArg V.bl (decide_eq_false (by omega))))) (fun hb => by cases hb) fun _ H8 e8 => ?_
    refine s_ret (ev_var rfl) fun H9 e9 => k H9 (hF7.trans (FrA.ex (e8.trans e9))) ?_ ((e8.trans e9) _ _ hd7)
    have := hR7.ex (e8.trans e9)
    rwa [Int.toNat_natCast, show i + 1 + sz n = i + (sz n + 1) by omega] at this
theorem ok_read_number (T : TX K mg) : FnOk P w K mg base CX0 4 T.a_read_number T.d_read_number ["reader"] (sp_rnum T.C_BitReader) := by
  refine T.F_read_number.ok sc_read_number (fun vs H Q E h => by obtain ⟨a, d, ds, i, n, rfl, _⟩ := h; rfl) (fun cdv A outer s H vs Q E hr h => ?_)
  obtain ⟨a, d, ds, i, n, rfl, hR, hd, hds, hl, hn, hf, k⟩ := h
  refine ⟨_, (pss_cons (ps_set (i := 1) sc_read_number.nd rfl (Or.inl rfl) (pe_meth0 (pv 0) T.cl_BitReader T.me_BitReader_bit_place (ok_BitReader_bit_place T) (hr.mono (by decide)) T.b_BitReader_bit_place .nil pass0))
      (pss_one (ps_try_only rfl rfl ⟨rfl, by decide, .inl T.g_MonochordError⟩ takes0 (fun W pn xe tk _ => (pss_one (ps_ret (pe_call (ok_number_ahead T) (hr.mono (by decide)) (by rfl) T.g_number_ahead T.F_number_ahead.kp T.b_number_ahead .nil pass0 (pa_cons (pv 0) pa_nil))))) (fun a oe cls d pn _ _ => pss_never)))), ?_⟩
  refine q_asg (ev_place (f := fun pos => (pos : Nat)) (ev_var rfl) hR rfl) fun H1 e1 => ?_
  exact s_retC (vs := [.ref a]) (ea_cons (ev_var rfl) ea_nil) fun H2 e2 => ⟨a, d, ds, i, n, rfl, hR.ex (e1.trans e2), (e1.trans e2) _ _ hd, hds, hl, hn, hf, fun H3 hF hR3 hd3 => k H3 ((FrA.ex (e1.trans e2)).trans hF) hR3 hd3⟩

def sp_since (C : Addr) : Sp := fun vs H Q _ => ∃ (a d : Addr) (ds : List Nat) (pos pl : Nat), vs = [.ref a, .int (pl : Int)] ∧ RdAt C H a d pos ∧ H d = some (.lst ((cs ds).map V.int)) ∧ RetL ((cs ((ds.drop pl).take (pos / 8 - pl))).map V.int) H Q
theorem ok_BitReader_since (T : TX K mg) : FnOk P w K mg base CX0 2 T.a_BitReader_since T.d_BitReader_since ["self", "place"] (sp_since T.C_BitReader) := by
  refine T.F_BitReader_since.ok sc_BitReader_since (fun vs H Q E h => by obtain ⟨a, d, ds, pos, pl, rfl, _⟩ := h; rfl) (fun cdv A outer s H vs Q E hr h => ?_)
  obtain ⟨a, d, ds, pos, pl, rfl, hR, hd, k⟩ := h
  obtain ⟨dx, ha⟩ := id hR
  refine ⟨_, (pss_one (ps_ret (pe_slice (r := rSlL K) sl_list (pe_fld (pv 0) rfl) (po_some (pv 1)) (po_some (pe_meth0 (pv 0) T.cl_BitReader T.me_BitReader_byte_place (ok_BitReader_byte_place T) (hr.mono (by decide)) T.b_BitReader_byte_place .nil pass0))))), ?_⟩
  exact s_retL (EvL.is (el_mid (ns := cs ds) (i := pl) (j := pos / 8) (Ev.s (ev_fld T.cl_BitReader T.n_BitReader_data (v := .ref d) (ev_var rfl) ha rfl) (sq_of hd)) (ev_var rfl) (ev_place (f := fun pos => (pos / 8 : Nat)) (ev_var rfl) hR rfl)) (by rw [cs_drop, cs_take])) fun p H1 hp e1 g1 => k p H1 hp e1 g1

/-! ### BitWriter -/
def wF (L : Addr) (h n : Nat) : List (Str × V) := [("_whole", .ref L), ("_held", .int (h : Int)), ("_held_bits", .int (n : Int))]
def WrAt (C : Addr) (H : Hp) (a L : Addr) (ms : List Bool) : Prop := ∃ (dx : Addr) (ws : List Nat) (h n : Nat), H a = some (.ins C dx (wF L h n)) ∧ H L = some (.lst ((cs ws).map V.int)) ∧ n < 8 ∧ h < 2 ^ n ∧ (∀ b ∈ ws, b < 256) ∧ ws.flatMap bits8 ++ bitsN n h = ms
def Fr (a L : Addr) (H H' : Hp) : Prop := ∀ b o, b ≠ a → b ≠ L → H b = some o → H' b = some o
theorem Fr.trans {a L : Addr} {H H1 H2 : Hp} (h : Fr a L H H1) (g : Fr a L H1 H2) : Fr a L H H2 := fun b o n1 n2 e => g b o n1 n2 (h b o n1 n2 e)
theorem Fr.ex {a L : Addr} {H H1 : Hp} (h : Ex H H1) : Fr a L H H1 := fun b o _ _ e => h b o e
theorem Fr.upd1 {a L : Addr} {H H1 : Hp} {o : HO} (h : Fr a L H H1) : Fr a L H (upd H1 a o) := fun b p n1 n2 e => by rw [upd_ne n1]; exact h b p n1 n2 e
theorem Fr.upd2 {a L : Addr} {H H1 : Hp} {o : HO} (h : Fr a L H H1) : Fr a L H (upd H1 L o) := fun b p n1 n2 e => by rw [upd_ne n2]; exact h b p n1 n2 e
theorem WrAt.ex {C a L : Addr} {H H1 : Hp} {ms : List Bool} (e : Ex H H1) (h : WrAt C H a L ms) : WrAt C H1 a L ms := by
  obtain ⟨dx, ws, hd, n, h1, h2, h3⟩ := h
  exact ⟨dx, ws, hd, n, e _ _ h1, e _ _ h2, h3⟩
theorem WrAt.ne {C a L : Addr} {H : Hp} {ms : List Bool} (h : WrAt C H a L ms) : a ≠ L := by
  obtain ⟨dx, ws, hd, n, h1, h2, h3⟩ := h
  intro e
  rw [e, h2] at h1
  cases h1
theorem WrAt.len {C a L : Addr} {H : Hp} {ms : List Bool} (h : WrAt C H a L ms) : ∃ dx ws hd n, H a = some (.ins C dx (wF L hd n)) ∧ H L = some (.lst ((cs ws).map V.int)) ∧ n < 8 ∧ hd < 2 ^ n ∧ (∀ b ∈ ws, b < 256) ∧ ws.flatMap bits8 ++ bitsN n hd = ms ∧ ms.length = 8 * ws.length + n := by
  obtain ⟨dx, ws, hd, n, h1, h2, h3, h4, h5, h6⟩ := h
  exact ⟨dx, ws, hd, n, h1, h2, h3, h4, h5, h6, by rw [← h6, List.length_append, bits_flat_len, bitsN_len]⟩
def sp_winit (C : Addr) : Sp := fun vs H Q _ => ∃ a dx, vs = [.ref a] ∧ H a = some (.ins C dx []) ∧ ∀ L H', H L = none → (∀ b o, b ≠ a → H b = some o → H' b = some o) → WrAt C H' a L [] → Q .non H'
theorem ok_BitWriter_init (T : TX K mg) : FnOk P w K mg base CX0 1 T.a_BitWriter_init T.d_BitWriter_init ["self"] (sp_winit T.C_BitWriter) := by
  refine T.F_BitWriter_init.ok sc_BitWriter_init (fun vs H Q E h => by obtain ⟨a, dx, rfl, _⟩ := h; rfl) (fun cdv A outer s H vs Q E hr h => ?_)
  obtain ⟨a, dx, rfl, ha, k⟩ := h
  refine ⟨_, (pss_cons (ps_fld (pv 0) (pe_lst pa_nil) rfl)
      (pss_cons (ps_fld (pv 0) pe_int rfl)
      (pss_one (ps_fld (pv 0) pe_int rfl)))), ?_⟩
  refine q_fldL (xs := []) T.cl_BitWriter T.n_BitWriter_whole (el_lst ea_nil (by decide)) (fun _ _ => ev_var rfl) ha (by decide) fun L H2 hL1 e2 g2 => ?_
  have hne : a ≠ L := fresh_ne hL1 ha
  refine q_fld T.cl_BitWriter T.n_BitWriter_held (v := .int 0) ev_c (ev_var rfl) upd_same (Nat.le_of_ble_eq_true rfl) fun H3 e3 => ?_
  refine s_fld T.cl_BitWriter T.n_BitWriter_held_bits (v := .int 0) ev_c (ev_var rfl) upd_same (Nat.le_of_ble_eq_true rfl) fun H4 e4 => ?_
  refine k L _ hL1 (fun b o n e => ?_) ⟨dx, [], 0, 0, upd_same, ?_, by decide, by decide, (fun b hb => by cases hb), rfl⟩
  · rw [upd_ne n]
    refine e4 _ _ ?_
    rw [upd_ne n]
    refine e3 _ _ ?_
    rw [upd_ne n]
    exact e2 _ _ e
  · rw [upd_ne hne.symm]
    refine e4 _ _ ?_
    rw [upd_ne hne.symm]
    refine e3 _ _ ?_
    rw [upd_ne hne.symm]
    exact g2
def sp_wwrite (C : Addr) : Sp := fun vs H Q _ => ∃ (a L : Addr) (ms : List Bool) (wd : Nat) (v : Int), vs = [.ref a, .int (wd : Int), .int v] ∧ WrAt C H a L ms ∧ wd ≤ 1000 ∧ ms.length + wd ≤ 400000 ∧ ∀ H', Fr a L H H' → WrAt C H' a L (ms ++ bitsN wd (v % 2 ^ wd).toNat) → Q .non H'
theorem ok_BitWriter_write (T : TX K mg) : FnOk P w K mg base CX0 1 T.a_BitWriter_write T.d_BitWriter_write ["self", "width", "value"] (sp_wwrite T.C_BitWriter) := by
  refine T.F_BitWriter_write.ok sc_BitWriter_write (fun vs H Q E h => by obtain ⟨a, L, ms, wd, v, rfl, _⟩ := h; rfl) (fun cdv A outer s H vs Q E hr h => ?_)
  obtain ⟨a, L, ms, wd, v, rfl, hW, hw, hlen, k⟩ := h
  obtain ⟨dx, ws, hd, n, ha, hl, hn, hh, hws, hbits, hml⟩ := hW.len
  have hne := hW.ne
  refine ⟨_, (pss_cons (ps_set (i := 3) sc_BitWriter_write.nd rfl (Or.inl rfl) (pe_op op_or (pe_op op_shl (pe_fld (pv 0) rfl) (pv 1)) (pe_op op_and (pv 2) (pe_op op_sub (pe_op op_shl pe_int (pv 1)) pe_int))))
      (pss_cons (ps_set (i := 4) sc_BitWriter_write.nd rfl (Or.inl rfl) (pe_op op_add (pe_fld (pv 0) rfl) (pv 1)))
      (pss_cons (ps_while PassesOwn.never (pt_cmpR op_ge (pv 4) pe_int (nomark _)) (pss_cons (ps_aug (i := 4) sc_BitWriter_write.nd rfl (Or.inl rfl) pe_int ip_sub)
        (pss_cons (ps_expr (pe_bm PySem.F.plainAttrs_list PySem.F.slot_list_append PySem.F.type_list_append mt_append (pe_fld (pv 0) rfl) (pa_cons (pe_op op_shr (pv 3) (pv 4)) pa_nil)))
        (pss_one (ps_aug (i := 3) sc_BitWriter_write.nd rfl (Or.inl rfl) (pe_op op_sub (pe_op op_shl pe_int (pv 4)) pe_int) iop_and)))))
      (pss_cons (ps_fld (pv 0) (pv 3) rfl)
      (pss_one (ps_fld (pv 0) (pv 4) rfl)))))), ?_⟩
  have hm0 := Int.emod_nonneg v (show ((2 ^ wd : Nat) : Int) ≠ 0 by have := Nat.two_pow_pos wd; omega)
  have hm1 := Int.emod_lt_of_pos v (show (0 : Int) < ((2 ^ wd : Nat) : Int) by have := Nat.two_pow_pos wd; omega)
  rw [pow_cast wd] at k
  have hvv : Builtin.bitAnd v (1 * 2 ^ ((wd : Int)).toNat - 1) = (((v % ((2 ^ wd : Nat) : Int)).toNat : Nat) : Int) := by
    rw [Int.toNat_natCast, Int.one_mul, bitAnd_maskZ, pow_cast]
    omega
  have hvl : (v % ((2 ^ wd : Nat) : Int)).toNat < 2 ^ wd := by omega
  generalize hvn : (v % ((2 ^ wd : Nat) : Int)).toNat = vn at *
  have hh7 : hd < 256 := Nat.lt_of_lt_of_le hh (Nat.pow_le_pow_right (n := 2) (by decide) (by omega : n ≤ 8))
  refine q_asg (v := .int ((hd * 2 ^ wd + vn : Nat) : Int)) (Ev.is (ev_I0 (ev_I (ev_fld T.cl_BitWriter T.n_BitWriter_held (v := .int (hd : Int)) (ev_var rfl) ha rfl) (ev_var rfl) (show CPow (hd : Int) (wd : Int) from ⟨by omega, by omega, by rw [Int.natAbs_natCast]; omega⟩)) (ev_I0 (ev_var rfl) (ev_I0 (ev_I ev_c (ev_var rfl) (show CPow 1 (wd : Int) from ⟨by omega, by omega, by decide⟩)) ev_c))) (congrArg V.int ?_)) fun H1 e1 => ?_
  · rw [hvv, Int.toNat_natCast, _root_.Bits.bitOr_join' (by omega) (by rw [pow_cast]; omega) (by omega), Int.natCast_add, Int.natCast_mul, pow_cast]
    omega
  refine q_asg (v := .int ((n + wd : Nat) : Int)) (Ev.is (ev_I0 (ev_fld T.cl_BitWriter T.n_BitWriter_held_bits (v := .int (n : Int)) (ev_var rfl) (e1 _ _ ha) rfl) (ev_var rfl)) (congrArg V.int (by omega))) fun H2 e2 => ?_
  have ex2 := e1.trans e2
  refine q_while (fun m σ' H' => ∃ (x m' : Nat) (us : List Nat), m = m' ∧ m' ≤ n + wd ∧ σ' = [some (.ref a), some (.int (wd : Int)), some (.int v), some (.int (x : Int)), some (.int (m' : Int))] ∧ Fr a L H H' ∧ H' a = some (.ins T.C_BitWriter dx (wF L hd n)) ∧ H' L = some (.lst ((cs us).map V.int)) ∧ x < 2 ^ m' ∧ (∀ b ∈ us, b < 256) ∧ us.flatMap bits8 ++ bitsN m' x = ms ++ bitsN wd vn) (n + wd) ⟨hd * 2 ^ wd + vn, n + wd, ws, rfl, Nat.le_refl _, rfl, Fr.ex ex2, ex2 _ _ ha, ex2 _ _ hl, ?_, hws, ?_⟩ ?_
  · rw [Nat.pow_add]
    have : (hd + 1) * 2 ^ wd ≤ 2 ^ n * 2 ^ wd := Nat.mul_le_mul_right _ hh
    rw [Nat.add_mul, Nat.one_mul] at this
    omega
  · rw [bitsN_cat hvl, ← List.append_assoc, hbits]
  rintro m _ H3 ⟨x, _, us, rfl, hmle, rfl, hF, ha3, hl3, hx, hus, hb⟩
  have hul : 8 * us.length + m = ms.length + wd := by
    have := congrArg List.length hb
    rw [List.length_append, List.length_append, bits_flat_len, bitsN_len, bitsN_len] at this
    exact this
  refine ⟨decide (8 ≤ m), et_test (Ev.is (ev_I0 (ev_var rfl) ev_c) (congrArg V.bl (decide_eq_decide.mpr (by show (8 : Int) ≤ (m : Int) ↔ _; omega)))), fun hb8 H4 e4 => ?_, fun hb8 H4 e4 => ?_⟩
  · have h8 : 8 ≤ m := of_decide_eq_true hb8
    refine ⟨fun σ2 H2 => ∃ m', m' < m ∧ _, fun σ2 H2 h => h, ?_⟩
    refine q_aug (b := 8) rfl ev_c fun H5 e5 => ?_
    have hm8 : (m : Int) - 8 = ((m - 8 : Nat) : Int) := by omega
    rw [hm8]
    refine q_app (v := .int ((x / 2 ^ (m - 8) : Nat) : Int)) ((e4.trans e5) _ _ hl3) (ev_fld T.cl_BitWriter T.n_BitWriter_whole (v := .ref L) (ev_var rfl) ((e4.trans e5) _ _ ha3) rfl) (Ev.is (ev_I (ev_var rfl) (ev_var rfl) (by show (0 : Int) ≤ _; omega)) (congrArg V.int (by rw [Int.toNat_natCast, pow_cast, Int.natCast_ediv]))) (by rw [List.length_map, cs_len]; omega) fun H6 e6 => ?_
    refine s_augR (a := (x : Int)) (b := 1 * 2 ^ (m - 8) - 1) rfl (ev_I0 (ev_I ev_c (ev_var rfl) (show CPow 1 ((m - 8 : Nat) : Int) from ⟨by omega, by omega, by decide⟩)) ev_c) fun H7 e7 => ?_
    rw [Int.one_mul, bitAnd_maskZ, pow_cast, show (x : Int) % ((2 ^ (m - 8) : Nat) : Int) = ((x % 2 ^ (m - 8) : Nat) : Int) from (Int.natCast_emod _ _).symm]
    refine ⟨m - 8, by omega, x % 2 ^ (m - 8), m - 8, us ++ [x / 2 ^ (m - 8)], rfl, by omega, rfl, ?_, ?_, ?_, Nat.mod_lt _ (Nat.two_pow_pos _), ?_, ?_⟩
    · exact ((hF.trans (Fr.ex ((e4.trans e5).trans e6))).upd2).trans (Fr.ex e7)
    · refine e7 _ _ ?_
      rw [upd_ne hne]
      exact e6 _ _ ((e4.trans e5) _ _ ha3)
    · refine e7 _ _ ?_
      rw [upd_same, cs_append, List.map_append]
      rfl
    · intro b hb
      rcases List.mem_append.mp hb with h | h
      · exact hus b h
      · cases List.mem_singleton.mp h
        rw [show m = 8 + (m - 8) by omega, Nat.pow_add] at hx
        exact Nat.div_lt_of_lt_mul (by rw [Nat.mul_comm]; exact hx)
    · rw [← hb, List.flatMap_append, List.flatMap_cons, List.flatMap_nil, List.append_nil, List.append_assoc]
      congr 1
      conv => rhs; rw [show m = 8 + (m - 8) by omega, bitsN_add]
      rw [bitsN_mod]
      congr 1
  · have h8 : m < 8 := by
      have := of_decide_eq_false hb8
      omega
    refine q_fld T.cl_BitWriter T.n_BitWriter_held (v := .int (x : Int)) (ev_var rfl) (ev_var rfl) (e4 _ _ ha3) (Nat.le_of_ble_eq_true rfl) fun H5 e5 => ?_
    refine s_fld T.cl_BitWriter T.n_BitWriter_held_bits (v := .int (m : Int)) (ev_var rfl) (ev_var rfl) upd_same (Nat.le_of_ble_eq_true rfl) fun H6 e6 => ?_
    refine k _ (((((hF.trans (Fr.ex (e4.trans e5))).upd1).trans (Fr.ex e6)).upd1)) ⟨dx, us, x, m, upd_same, ?_, h8, hx, hus, hb⟩
    rw [upd_ne hne.symm]
    refine e6 _ _ ?_
    rw [upd_ne hne.symm]
    exact (e4.trans e5) _ _ hl3

theorem s_ext {σ : L2.St} {H : Hp} {ta te : TE} {D : Ends} {l b : Addr} {xs zs : List V} (hl : H l = some (.lst xs)) (hb : H b = some (.lst zs)) (ha : Ev ta σ H (.ref l)) (he : Ev te σ H (.ref b)) (hs : xs.length + zs.length ≤ 100000) (k : ∀ H1, Ex H H1 → D.nx σ (upd H1 l (.lst (xs ++ zs)))) : tDrop (tBM K "list" rExtend ta (tCons te tNil)) D σ H :=
  ha H (Ex.refl H) _ fun H1 e1 => ⟨.inl ⟨rfl, _, SqL.of (e1 _ _ hl)⟩, he H1 e1 _ fun H2 e2 => ⟨l, b, xs, zs, rfl, rfl, (e1.trans e2) _ _ hl, (e1.trans e2) _ _ hb, sz_of hs, k H2 (e1.trans e2)⟩⟩

def sp_wbytes (C : Addr) : Sp := fun vs H Q _ => ∃ (a L b : Addr) (ms : List Bool) (ds : List Nat), vs = [.ref a, .ref b] ∧ WrAt C H a L ms ∧ H b = some (.lst ((cs ds).map V.int)) ∧ b ≠ L ∧ (∀ d ∈ ds, d < 256) ∧ ms.length + 8 * ds.length ≤ 300000 ∧ ∀ H', Fr a L H H' → WrAt C H' a L (ms ++ ds.flatMap bits8) → Q .non H'
theorem bitsN_8 {d : Nat} (h : d < 256) : bitsN 8 ((d : Int) % 2 ^ 8).toNat = bits8 d := by
  rw [bits8_N]
  congr 1
  omega
theorem ok_BitWriter_append_bytes (T : TX K mg) : FnOk P w K mg base CX0 2 T.a_BitWriter_append_bytes T.d_BitWriter_append_bytes ["self", "data"] (sp_wbytes T.C_BitWriter) := by
  refine T.F_BitWriter_append_bytes.ok sc_BitWriter_append_bytes (fun vs H Q E h => by obtain ⟨a, L, b, ms, ds, rfl, _⟩ := h; rfl) (fun cdv A outer s H vs Q E hr h => ?_)
  obtain ⟨a, L, b, ms, ds, rfl, hW, hb, hbL, hds, hlen, k⟩ := h
  obtain ⟨dx, ws, hd, n, ha, hl, hn, hh, hws, hbits, hml⟩ := hW.len
  have hba : b ≠ a := by
    intro e
    rw [e, ha] at hb
    cases hb
  refine ⟨_, (pss_one (ps_if (pt_cmpR op_eq (pe_fld (pv 0) rfl) pe_int (nomark _)) (pss_one (ps_expr (pe_bm PySem.F.plainAttrs_list PySem.F.slot_list_extend PySem.F.type_list_extend mt_extend (pe_fld (pv 0) rfl) (pa_cons (pv 1) pa_nil)))) (pss_one (ps_for PassesOwn.never rfl (pi_list (pv 1)) (pg_name (i := 2) sc_BitWriter_append_bytes.nd rfl (Or.inl rfl)) (pss_one (ps_expr (pe_meth (pv 0) T.cl_BitWriter T.me_BitWriter_write (ok_BitWriter_write T) (hr.mono (by decide)) T.b_BitWriter_write .nil pass0 (pa_cons pe_int (pa_cons (pv 2) pa_nil))))))))), ?_⟩
  refine s_if (b := decide (n = 0)) (et_test (Ev.is (ev_eq (ev_fld T.cl_BitWriter T.n_BitWriter_held_bits (v := .int (n : Int)) (ev_var rfl) ha rfl) ev_c rfl) (congrArg V.bl (decide_eq_decide.mpr ⟨fun h => by have := V.int.inj h; omega, fun h => by rw [h]; rfl⟩)))) (fun h0 H1 e1 => ?_) (fun _ H1 e1 => ?_)
  · have h0 : n = 0 := of_decide_eq_true h0
    subst h0
    refine s_ext (e1 _ _ hl) (e1 _ _ hb) (ev_fld T.cl_BitWriter T.n_BitWriter_whole (v := .ref L) (ev_var rfl) (e1 _ _ ha) rfl) (ev_var rfl) (by rw [List.length_map, List.length_map, cs_len, cs_len]; omega) fun H2 e2 => ?_
    refine k _ (Fr.ex (e1.trans e2)).upd2 ⟨dx, ws ++ ds, hd, 0, ?_, ?_, by decide, hh, ?_, ?_⟩
    · rw [upd_ne hW.ne]
      exact (e1.trans e2) _ _ ha
    · rw [upd_same, cs_append, List.map_append]
    · intro d hd
      rcases List.mem_append.mp hd with h | h
      · exact hws d h
      · exact hds d h
    · rw [← hbits, List.flatMap_append]
      show _ ++ [] = _ ++ [] ++ _
      rw [List.append_nil, List.append_nil]
  · refine s_forLn (K := K) (xs := (cs ds).map V.int) (a := b) (ev_var rfl) (sq_of (e1 _ _ hb)) (fun i σ' H' => ∃ c, σ' = [some (.ref a), some (.ref b), c] ∧ Fr a L H H' ∧ WrAt T.C_BitWriter H' a L (ms ++ (ds.take i).flatMap bits8)) (fun H2 e2 => ⟨none, rfl, Fr.ex (e1.trans e2), by show WrAt _ _ _ _ (ms ++ []); rw [List.append_nil]; exact hW.ex (e1.trans e2)⟩) (fun i σ' H' _ h => by obtain ⟨_, _, hF, _⟩ := h; exact sq_of (hF _ _ hba hbL hb)) ?_ ?_
    · rintro i x σ' H2 hx ⟨c, rfl, hF, hW2⟩
      obtain ⟨n2, hn2, hi, rfl⟩ := int_at hx
      rw [cs_len] at hi
      have hd2 : ds[i]? = some ds[i] := List.getElem?_eq_getElem hi
      have hn3 := cs_at hd2
      rw [hn2] at hn3
      have hn3 := Option.some.inj hn3
      have hlt : ds[i] < 256 := hds _ (List.getElem_mem hi)
      rw [show ds.take (i + 1) = ds.take i ++ [ds[i]] from by rw [List.take_add_one, hd2]; rfl, List.flatMap_append, List.flatMap_cons, List.flatMap_nil, List.append_nil]
      generalize ds[i] = d at *
      subst hn3
      obtain ⟨dx2, ws2, hd2', nn, ha2, _⟩ := hW2.len
      refine s_dropM (vs := [.int 8, .int (d : Int)]) (ev_var rfl) ha2 rfl (ea_cons ev_c (ea_cons (ev_var rfl) ea_nil)) fun H4 e4 => ⟨a, L, _, 8, (d : Int), rfl, hW2.ex e4, by decide, by rw [List.length_append, bits_flat_len, List.length_take]; omega, fun H5 hF5 hW5 => ?_⟩
      rw [bitsN_8 hlt, List.append_assoc] at hW5
      exact ⟨_, rfl, (hF.trans (Fr.ex e4)).trans hF5, hW5⟩
    · rintro σ' H2 ⟨c, rfl, hF, hW2⟩
      rw [List.length_map, cs_len, List.take_length] at hW2
      exact k H2 hF hW2

def sp_wlist (C : Addr) : Sp := fun vs H Q _ => ∃ (a L : Addr) (ms : List Bool), vs = [.ref a] ∧ WrAt C H a L ms ∧ ms.length ≤ 300000 ∧ ∀ p us H', H p = none → Ex H H' → H' p = some (.lst ((cs us).map V.int)) → us.flatMap bits8 = ms ++ List.replicate (padN ms.length) false → (∀ b ∈ us, b < 256) → Q (.ref p) H'
theorem ok_BitWriter_byte_list (T : TX K mg) : FnOk P w K mg base CX0 1 T.a_BitWriter_byte_list T.d_BitWriter_byte_list ["self"] (sp_wlist T.C_BitWriter) := by
  refine T.F_BitWriter_byte_list.ok sc_BitWriter_byte_list (fun vs H Q E h => by obtain ⟨a, L, ms, rfl, _⟩ := h; rfl) (fun cdv A outer s H vs Q E hr h => ?_)
  obtain ⟨a, L, ms, rfl, hW, hlen, k⟩ := h
  obtain ⟨dx, ws, hd, n, ha, hl, hn, hh, hws, hbits, hml⟩ := hW.len
  have f1 : ∀ {H1 : Hp}, Ex H H1 → Ev (tFld K (tVar 0) "_whole") (start ["self"] [.ref a]) H1 (.ref L) := fun e => ev_fld T.cl_BitWriter T.n_BitWriter_whole (ev_var rfl) (e _ _ ha) rfl
  have f2 : ∀ {H1 : Hp}, Ex H H1 → Ev (tFld K (tVar 0) "_held") (start ["self"] [.ref a]) H1 (.int (hd : Int)) := fun e => ev_fld T.cl_BitWriter T.n_BitWriter_held (ev_var rfl) (e _ _ ha) rfl
  have f3 : ∀ {H1 : Hp}, Ex H H1 → Ev (tFld K (tVar 0) "_held_bits") (start ["self"] [.ref a]) H1 (.int (n : Int)) := fun e => ev_fld T.cl_BitWriter T.n_BitWriter_held_bits (ev_var rfl) (e _ _ ha) rfl
  refine ⟨_, (pss_cons (ps_if (pt_cmpR op_eq (pe_fld (pv 0) rfl) pe_int (nomark _)) (pss_one (ps_ret (pe_callTy (r := rListS K) call_list_of (by rfl) T.m_list PyProof.Rows.boot_list (pa_cons (pe_fld (pv 0) rfl) pa_nil)))) pss_nil)
      (pss_one (ps_ret (pe_op op_cat (pe_fld (pv 0) rfl) (pe_lst (pa_cons (pe_op op_shl (pe_fld (pv 0) rfl) (pe_op op_sub pe_int (pe_fld (pv 0) rfl))) pa_nil)))))), ?_⟩
  refine q_when (b := decide (n = 0)) (et_test (Ev.is (ev_eq (f3 (Ex.refl H)) ev_c rfl) (congrArg V.bl (decide_eq_decide.mpr ⟨fun h => by have := V.int.inj h; omega, fun h => by rw [h]; rfl⟩)))) (fun h0 H1 e1 => ?_) (fun h0 H1 e1 => ?_)
  · have h0 : n = 0 := of_decide_eq_true h0
    subst h0
    refine s_retL (el_of (Ev.s (f1 e1) (sq_of (e1 _ _ hl)))) fun p H2 hp e2 g2 => ?_
    refine k p ws H2 (by cases h : H p with | none => rfl | some o => rw [e1 _ _ h] at hp; cases hp) (e1.trans e2) g2 ?_ hws
    have : padN ms.length = 0 := by unfold padN; omega
    rw [this, ← hbits]
    show _ = _ ++ [] ++ []
    rw [List.append_nil, List.append_nil]
  · have h0 : ¬ n = 0 := of_decide_eq_false h0
    have hh8 : hd < 256 := Nat.lt_of_lt_of_le hh (Nat.pow_le_pow_right (n := 2) (by decide) (by omega : n ≤ 8))
    refine s_retL (xs := (cs (ws ++ [hd * 2 ^ (8 - n)])).map V.int) (EvL.is (el_cat (Ev.r (f1 e1) (e1 _ _ hl)) (EvL.r (el_lst (vs := [.int ((hd * 2 ^ (8 - n) : Nat) : Int)]) (ea_cons (Ev.is (ev_I (j := ((8 - n : Nat) : Int)) (f2 e1) (Ev.is (ev_I0 ev_c (f3 e1)) (congrArg V.int (by omega))) (show CPow (hd : Int) ((8 - n : Nat) : Int) from ⟨by omega, by omega, by rw [Int.natAbs_natCast]; omega⟩)) (congrArg V.int (by rw [Int.toNat_natCast, pow_cast, Int.natCast_mul]))) ea_nil) (Nat.le_of_ble_eq_true rfl))) ?_) ?_) fun p H2 hp e2 g2 => ?_
    · rw [List.length_map, cs_len]
      show _ + 1 ≤ _
      omega
    · rw [cs_append, List.map_append]
      rfl
    · refine k p _ H2 (by cases h : H p with | none => rfl | some o => rw [e1 _ _ h] at hp; cases hp) (e1.trans e2) g2 ?_ ?_
      · have : padN ms.length = 8 - n := by unfold padN; omega
        rw [this, ← hbits, List.flatMap_append, List.flatMap_cons, List.flatMap_nil, List.append_nil, List.append_assoc, bits8_N]
        congr 1
        have h8 : 8 = n + (8 - n) := by omega
        conv => lhs; rw [h8]
        rw [show n + (8 - n) - n = 8 - n by omega]
        have h3 := bitsN_cat (n := n) (w := 8 - n) (h := hd) (v := 0) (Nat.two_pow_pos _)
        rw [Nat.add_zero, bitsN_zero] at h3
        exact h3
      · intro d hdm
        rcases List.mem_append.mp hdm with h | h
        · exact hws d h
        · cases List.mem_singleton.mp h
          have h3 : hd * 2 ^ (8 - n) < 2 ^ n * 2 ^ (8 - n) := Nat.mul_lt_mul_of_pos_right hh (Nat.two_pow_pos _)
          rw [← Nat.pow_add, show n + (8 - n) = 8 by omega] at h3
          exact h3

theorem chunk : ∀ (us : List Nat) (k : Nat), k < us.length → ((us.flatMap bits8).drop (8 * k)).take 8 = bits8 (us.getD k 0)
  | u :: r, 0, _ => by
    rw [List.flatMap_cons]
    show ((bits8 u ++ _).drop 0).take 8 = bits8 u
    rw [List.drop_zero]
    exact List.take_left' (l₁ := bits8 u) rfl
  | u :: r, k + 1, h => by
    rw [List.flatMap_cons, show 8 * (k + 1) = (bits8 u).length + 8 * k by show _ = 8 + 8 * k; omega, List.drop_append, List.drop_of_length_le (by omega), List.nil_append, show (bits8 u).length + 8 * k - (bits8 u).length = 8 * k by omega]
    exact chunk r k (by simp at h; omega)
theorem us_of {ws : List Nat} {hd n : Nat} {ms : List Bool} (hn : n < 8) (hh : hd < 2 ^ n) (hws : ∀ b ∈ ws, b < 256) (hbits : ws.flatMap bits8 ++ bitsN n hd = ms) : ∃ us : List Nat, us.flatMap bits8 = ms ++ List.replicate (padN ms.length) false ∧ ∀ u ∈ us, u < 256 := by
  have hml : ms.length = 8 * ws.length + n := by rw [← hbits, List.length_append, bits_flat_len, bitsN_len]
  by_cases h0 : n = 0
  · subst h0
    refine ⟨ws, ?_, hws⟩
    have : padN ms.length = 0 := by unfold padN; omega
    rw [this, ← hbits]
    show _ = _ ++ [] ++ []
    rw [List.append_nil, List.append_nil]
  · refine ⟨ws ++ [hd * 2 ^ (8 - n)], ?_, ?_⟩
    · have : padN ms.length = 8 - n := by unfold padN; omega
      rw [this, ← hbits, List.flatMap_append, List.flatMap_cons, List.flatMap_nil, List.append_nil, List.append_assoc, bits8_N]
      congr 1
      have h8 : 8 = n + (8 - n) := by omega
      conv => lhs; rw [h8]
      rw [show n + (8 - n) - n = 8 - n by omega]
      have h3 := bitsN_cat (n := n) (w := 8 - n) (h := hd) (v := 0) (Nat.two_pow_pos _)
      rw [Nat.add_zero, bitsN_zero] at h3
      exact h3
    · intro d hdm
      rcases List.mem_append.mp hdm with h | h
      · exact hws d h
      · cases List.mem_singleton.mp h
        have h3 : hd * 2 ^ (8 - n) < 2 ^ n * 2 ^ (8 - n) := Nat.mul_lt_mul_of_pos_right hh (Nat.two_pow_pos _)
        rw [← Nat.pow_add, show n + (8 - n) = 8 by omega] at h3
        exact h3
theorem us_one {us vs : List Nat} (hu : ∀ u ∈ us, u < 256) (hv : ∀ u ∈ vs, u < 256) (h : us.flatMap bits8 = vs.flatMap bits8) : us = vs := by
  have hl : us.length = vs.length := by
    have := congrArg List.length h
    rw [bits_flat_len, bits_flat_len] at this
    omega
  refine List.ext_getElem? fun k => ?_
  by_cases hk : k < us.length
  · have h1 : us[k]? = some (us.getD k 0) := by rw [List.getD_eq_getElem?_getD, List.getElem?_eq_getElem hk]; rfl
    have h2 : vs[k]? = some (vs.getD k 0) := by rw [List.getD_eq_getElem?_getD, List.getElem?_eq_getElem (by omega)]; rfl
    have c1 := chunk us k hk
    have c2 := chunk vs k (by omega)
    rw [h, c2] at c1
    have c3 := congrArg valL c1
    rw [valL_8 _ (hu _ (List.mem_of_getElem? h1)), valL_8 _ (hv _ (List.mem_of_getElem? h2))] at c3
    rw [h1, h2, c3]
  · rw [List.getElem?_eq_none (by omega), List.getElem?_eq_none (by omega)]
theorem er_list {σ : L2.St} {H : Hp} {to : TE} {E : XK} {C a L : Addr} {ms : List Bool} {us : List Nat} (h : Ev to σ H (.ref a)) (hW : WrAt C H a L ms) (hl : ms.length ≤ 300000) (hus : us.flatMap bits8 = ms ++ List.replicate (padN ms.length) false) (hu : ∀ u ∈ us, u < 256) : EvL (tMeth C "byte_list" (sp_wlist C) [] E to tNil) σ H ((cs us).map V.int) := fun H1 e Q q => by
  obtain ⟨dx, ws, hd, n, ha, _⟩ := hW.len
  refine h H1 e _ fun H2 e2 => ⟨a, dx, _, rfl, (e.trans e2) _ _ ha, rfl, a, L, ms, rfl, hW.ex (e.trans e2), hl, fun p vs H3 hp e3 g3 hv1 hv2 => ?_⟩
  have := us_one hu hv2 (hus.trans hv1.symm)
  subst this
  exact q p H3 (by cases h : H1 p with | none => rfl | some o => rw [e2 _ _ h] at hp; cases hp) (e2.trans e3) g3
theorem WrAt.back {C a L : Addr} {H H1 : Hp} {ms ms1 : List Bool} (h : WrAt C H a L ms) (h1 : WrAt C H1 a L ms1) (hF : Fr a L H H1) {q : Addr} (hq : H1 q = none) : H q = none := by
  cases hc : H q with
  | none => rfl
  | some o =>
    obtain ⟨dx, ws, hd, n, ha, hl, _⟩ := h1
    by_cases e1 : q = a
    · rw [e1, ha] at hq
      cases hq
    · by_cases e2 : q = L
      · rw [e2, hl] at hq
        cases hq
      · rw [hF q o e1 e2 hc] at hq
        cases hq
theorem WrAt.fr {C a L a2 L2' : Addr} {H H1 : Hp} {ms : List Bool} (h : WrAt C H a L ms) (hF : Fr a2 L2' H H1) (n1 : a ≠ a2) (n2 : a ≠ L2') (n3 : L ≠ a2) (n4 : L ≠ L2') : WrAt C H1 a L ms := by
  obtain ⟨dx, ws, hd, n, h1, h2, h3⟩ := h
  exact ⟨dx, ws, hd, n, hF _ _ n1 n2 h1, hF _ _ n3 n4 h2, h3⟩
theorem self_mod {v w : Nat} (h : v < 2 ^ w) : ((v : Int) % 2 ^ w).toNat = v := by
  rw [pow_cast, show ((v : Int) % ((2 ^ w : Nat) : Int)) = ((v % 2 ^ w : Nat) : Int) from (Int.natCast_emod _ _).symm, Int.toNat_natCast, Nat.mod_eq_of_lt h]
theorem mk_w {C : Addr} {E : XK} {σ : L2.St} {H : Hp} {Q : VK} (k : ∀ a L H', H a = none → H L = none → Ex H H' → WrAt C H' a L [] → Q (.ref a) H') : tMake C (sp_winit C) [] E tNil σ H Q := fun x dx hx hdx hne => by
  have hex : ∀ b o, H b = some o → upd (upd H dx (HO.own x)) x (HO.ins C dx []) b = some o := fun b o hb => by
    rw [upd_ne (fresh_ne hx hb), upd_ne (fresh_ne hdx hb)]
    exact hb
  refine ⟨x, dx, rfl, upd_same, fun L H' hL hF hW => ⟨rfl, k x L H' hx ?_ (fun b o hb => hF b o (fresh_ne hx hb) (hex b o hb)) hW⟩⟩
  cases h : H L with
  | none => rfl
  | some o => rw [hex L o h] at hL; cases hL

theorem T8_len : T8.length = 16 := rfl
theorem T16_len : T16.length = 16 := rfl
theorem T32_len : T32.length = 16 := rfl
theorem nib_int {w : Nat} (T : List Nat) (r : Nat) : Builtin.bitXor (Builtin.bitAnd (r : Int) (1 * 2 ^ (w - 4) - 1) * 2 ^ 4) ((T.getD (r / 2 ^ (w - 4) % 16) 0 : Nat) : Int) = ((nib w T r : Nat) : Int) := by
  rw [Int.one_mul, _root_.Bits.bitAnd_mask _ (by omega)]
  have h1 : (r : Int) % 2 ^ (w - 4) * 2 ^ 4 = ((r % 2 ^ (w - 4) * 16 : Nat) : Int) := by
    rw [Int.natCast_mul, Int.natCast_emod, Int.natCast_pow]
    rfl
  rw [h1, _root_.Bits.bitXor_pp (by omega) (by omega)]
  rfl
theorem ix_int {w r : Nat} : Builtin.bitAnd ((r : Int) / 2 ^ (w - 4)) 15 = ((r / 2 ^ (w - 4) % 16 : Nat) : Int) := by
  have h1 : (r : Int) / 2 ^ (w - 4) = ((r / 2 ^ (w - 4) : Nat) : Int) := by
    rw [Int.natCast_ediv, Int.natCast_pow]
    rfl
  rw [h1]
  have h2 := _root_.Bits.bitAnd_mask (x := ((r / 2 ^ (w - 4) : Nat) : Int)) 4 (Int.natCast_nonneg _)
  rw [show ((2 : Int) ^ 4 - 1) = 15 from rfl] at h2
  rw [h2]
  rfl
theorem tab_at {T : List Nat} (hT : T.length = 16) (n : Nat) : atI ((cs T).map V.int) ((n % 16 : Nat) : Int) = some (.int ((T.getD (n % 16) 0 : Nat) : Int)) := by
  refine at_of rfl (at_int (cs_at ?_))
  rw [List.getD_eq_getElem?_getD, List.getElem?_eq_getElem (by omega)]
  rfl
theorem ev_nib {K : PySem.W.Frag} {σ : L2.St} {H : Hp} {t1 t2 t3 t4 t5 : TE} {w r : Nat} {T : List Nat} {p : Addr} (hT : T.length = 16) (hw : 8 ≤ w) (hw2 : w ≤ 32)
    (h1 : Ev t1 σ H (.int (r : Int))) (h2 : Ev t2 σ H (.int (1 * 2 ^ (w - 4) - 1))) (h3 : Ev t3 σ H (.ref p)) (hp : SqT K H p ((cs T).map V.int)) (h4 : Ev t4 σ H (.int (r : Int))) (h5 : Ev t5 σ H (.int (((w - 4 : Nat) : Int)))) :
    Ev (tOp (rI0 fun i j => .int (Builtin.bitXor i j)) (tOp (rI CPow fun i j => .int (i * 2 ^ j.toNat)) (tOp (rI0 fun i j => .int (Builtin.bitAnd i j)) t1 t2) (tC (.int 4))) (tOp (rIxT K) t3 (tOp (rI0 fun i j => .int (Builtin.bitAnd i j)) (tOp (rI (fun _ j => 0 ≤ j) fun i j => .int (i / 2 ^ j.toNat)) t4 t5) (tC (.int 15))))) σ H (.int ((nib w T r : Nat) : Int)) := by
  refine Ev.is (ev_I0 (ev_I (j := 4) (ev_I0 h1 h2) ev_c ⟨by decide, by decide, ?_⟩) (ev_atT (n := ((r / 2 ^ (w - 4) % 16 : Nat) : Int)) h3 hp (Ev.is (ev_I0 (ev_I h4 h5 (by show (0 : Int) ≤ _; omega)) ev_c) ?_) (tab_at hT _))) ?_
  · rw [Int.one_mul, _root_.Bits.bitAnd_mask _ (by omega)]
    have h1 : (r : Int) % 2 ^ (w - 4) = ((r % 2 ^ (w - 4) : Nat) : Int) := by
      rw [Int.natCast_emod, Int.natCast_pow]
      rfl
    rw [h1, Int.natAbs_natCast]
    exact Nat.lt_of_lt_of_le (Nat.mod_lt _ (Nat.two_pow_pos _)) (Nat.pow_le_pow_right (by decide) (by omega))
  · rw [Int.toNat_natCast, ix_int]
  · exact congrArg V.int (nib_int T r)
def sp_div (K : PySem.W.Frag) : Sp := fun vs H Q _ => ∃ (a t : Addr) (ds T : List Nat) (r w p : Nat), vs = [.ref a, .int (r : Int), .int (w : Int), .ref t] ∧ SqL K H a ((cs ds).map V.int) ∧ SqT K H t ((cs T).map V.int) ∧ T.length = 16 ∧ Tab w p T ∧ w ≤ 32 ∧ r < 2 ^ w ∧ (∀ d ∈ ds, d < 256) ∧ RetV (.int ((crcN w T r ds : Nat) : Int)) H Q
theorem crcN_snoc (w : Nat) (T : List Nat) (r : Nat) (ds : List Nat) (d : Nat) : crcN w T r (ds ++ [d]) = stp w T (crcN w T r ds) d := by
  unfold crcN
  rw [List.foldl_append]
  rfl
theorem ok_divided (T : TX K mg) : FnOk P w K mg base CX0 1 T.a_divided T.d_divided ["data", "start", "width", "steps"] (sp_div K) := by
  refine T.F_divided.ok sc_divided (fun vs H Q E h => by obtain ⟨a, t, ds, T, r, w, p, rfl, _⟩ := h; rfl) (fun cdv A outer s H vs Q E hr h => ?_)
  obtain ⟨a, t, ds, tb, r, wd, pl, rfl, hS, hT, hT16, tab, hw32, hrw, hds, k⟩ := h
  have hw8 := tab.w8
  refine ⟨_, (pss_cons (ps_set (i := 4) sc_divided.nd rfl (Or.inl rfl) (pv 1))
      (pss_cons (ps_set (i := 5) sc_divided.nd rfl (Or.inl rfl) (pe_op op_sub (pv 2) pe_int))
      (pss_cons (ps_set (i := 6) sc_divided.nd rfl (Or.inl rfl) (pe_op op_sub (pe_op op_shl pe_int (pv 5)) pe_int))
      (pss_cons (ps_for PassesOwn.never rfl (pi_list (pv 0)) (pg_name (i := 7) sc_divided.nd rfl (Or.inl rfl)) (pss_cons (ps_aug (i := 4) sc_divided.nd rfl (Or.inl rfl) (pe_op op_shl (pv 7) (pe_op op_sub (pv 2) pe_int)) iop_xor)
        (pss_cons (ps_set (i := 4) sc_divided.nd rfl (Or.inl rfl) (pe_op op_xor (pe_op op_shl (pe_op op_and (pv 4) (pv 6)) pe_int) (pe_ix (r := rIxT K) ix_tup (pv 3) (pe_op op_and (pe_op op_shr (pv 4) (pv 5)) pe_int) (fun _ _ => rfl))))
        (pss_one (ps_set (i := 4) sc_divided.nd rfl (Or.inl rfl) (pe_op op_xor (pe_op op_shl (pe_op op_and (pv 4) (pv 6)) pe_int) (pe_ix (r := rIxT K) ix_tup (pv 3) (pe_op op_and (pe_op op_shr (pv 4) (pv 5)) pe_int) (fun _ _ => rfl))))))))
      (pss_one (ps_ret (pv 4))))))), ?_⟩
  walk_at "asg"
  intro H1 e1
  refine q_asg (v := .int ((wd - 4 : Nat) : Int)) (Ev.is (ev_I0 (ev_var rfl) ev_c) (congrArg V.int (by omega))) fun H2 e2 => ?_
  refine q_asg (v := .int (1 * 2 ^ (wd - 4) - 1)) (ev_I0 (ev_I ev_c (ev_var rfl) (show CPow 1 ((wd - 4 : Nat) : Int) from ⟨by omega, by omega, by decide⟩)) ev_c) fun H3 e3 => ?_
  refine q_forLn (xs := (cs ds).map V.int) (a := a) (ev_var rfl) (ex_l ((e1.trans e2).trans e3) hS) (fun i σ' H' => ∃ c, σ' = [some (.ref a), some (.int (r : Int)), some (.int (wd : Int)), some (.ref t), some (.int ((crcN wd tb r (ds.take i) : Nat) : Int)), some (.int ((wd - 4 : Nat) : Int)), some (.int (1 * 2 ^ (wd - 4) - 1)), c] ∧ Ex H H')
    (fun H4 e4 => ⟨none, rfl, ((e1.trans e2).trans e3).trans e4⟩) (fun i σ' H' _ h => by obtain ⟨_, _, e⟩ := h; exact ex_l e hS) ?_ ?_
  · rintro i x σ' H' hx ⟨c, rfl, ex⟩
    obtain ⟨n, hn, hi, rfl⟩ := int_at hx
    rw [cs_len] at hi
    have hd : ds[i]? = some ds[i] := List.getElem?_eq_getElem hi
    have hn2 := cs_at hd
    rw [hn] at hn2
    have hn2 := Option.some.inj hn2
    have hd256 : ds[i] < 256 := hds _ (List.getElem_mem hi)
    rw [show ds.take (i + 1) = ds.take i ++ [ds[i]] from by rw [List.take_add_one, hd]; rfl, crcN_snoc]
    have hr1 := (crcN_ok tab (ds.take i) r hrw fun d hd => hds d (List.mem_of_mem_take hd)).1
    generalize crcN wd tb r (ds.take i) = r1 at *
    generalize ds[i] = d at *
    subst hn2
    refine q_augR (a := (r1 : Int)) (b := ((d * 2 ^ (wd - 8) : Nat) : Int)) rfl (Ev.is (ev_I (ev_var rfl) (ev_I0 (ev_var rfl) ev_c) (show CPow (d : Int) ((wd : Int) - 8) from ⟨by omega, by omega, by rw [Int.natAbs_natCast]; omega⟩)) ?_) fun H4 e4 => ?_
    · rw [show ((wd : Int) - 8).toNat = wd - 8 by omega, Int.natCast_mul, Int.natCast_pow]
      rfl
    rw [show Builtin.bitXor (r1 : Int) ((d * 2 ^ (wd - 8) : Nat) : Int) = ((r1 ^^^ (d * 2 ^ (wd - 8)) : Nat) : Int) from _root_.Bits.bitXor_pp (by omega) (by omega)]
    refine q_asg (ev_nib hT16 hw8 hw32 (ev_var rfl) (ev_var rfl) (ev_var rfl) (ex_t (ex.trans e4) hT) (ev_var rfl) (ev_var rfl)) fun H5 e5 => ?_
    refine s_asg (ev_nib hT16 hw8 hw32 (ev_var rfl) (ev_var rfl) (ev_var rfl) (ex_t ((ex.trans e4).trans e5) hT) (ev_var rfl) (ev_var rfl)) fun H6 e6 => ?_
    exact ⟨_, rfl, ((ex.trans e4).trans e5).trans e6⟩
  · rintro σ' H' ⟨c, rfl, ex⟩
    walk_at "ret"
    intro H4 e4
    refine ret_eq k (ex.trans e4) ?_
    rw [List.length_map, cs_len, List.take_length]
def TW (w : Nat) : List Nat := if w = 8 then T8 else if w = 16 then T16 else T32
def PW (w : Nat) : Nat := if w = 8 then 7 else if w = 16 then 32773 else 79764919
theorem tabW {w : Nat} (h : w = 8 ∨ w = 16 ∨ w = 32) : Tab w (PW w) (TW w) := by
  rcases h with rfl | rfl | rfl
  · exact tab8
  · exact tab16
  · exact tab32
theorem TW_len (w : Nat) : (TW w).length = 16 := by
  unfold TW
  split
  · rfl
  · split <;> rfl
def sp_crc (K : PySem.W.Frag) (w : Nat) : Sp := fun vs H Q _ => ∃ (a : Addr) (ds : List Nat) (r : Nat), vs = [.ref a, .int (r : Int)] ∧ SqL K H a ((cs ds).map V.int) ∧ r < 2 ^ w ∧ (∀ d ∈ ds, d < 256) ∧ RetV (.int ((crcN w (TW w) r ds : Nat) : Int)) H Q

theorem ok_crc8 (T : TX K mg) : FnOk P w K mg base CX0 2 T.a_crc8 T.d_crc8 ["data", "start"] (sp_crc K 8) := by
  refine T.F_crc8.ok sc_crc8 (fun vs H Q E h => by obtain ⟨a, ds, r, rfl, _⟩ := h; rfl) (fun cdv A outer s H vs Q E hr h => ?_)
  obtain ⟨a, ds, r, rfl, hS, hrw, hds, k⟩ := h
  refine ⟨_, (pss_one (ps_ret (pe_call (ok_divided T) (hr.mono (by decide)) (by rfl) T.g_divided T.F_divided.kp T.b_divided .nil pass0 (pa_cons (pv 0) (pa_cons (pv 1) (pa_cons pe_int (pa_cons (pe_glob (v := V.ref T.A_STEPS_8) (by rfl) T.c_STEPS_8 rfl) pa_nil))))))), ?_⟩
  refine s_ret (v := .int ((crcN 8 (TW 8) r ds : Nat) : Int)) (ev_call (ea_cons (ev_var rfl) (ea_cons (ev_var rfl) (ea_cons ev_c (ea_cons ev_c ea_nil)))) fun H1 e Q q _ => ⟨a, _, ds, T8, r, 8, 7, rfl, ex_l e hS, T.s_STEPS_8 _, rfl, tab8, by decide, hrw, hds, q⟩) fun H1 e => k H1 e

/-! ### the crc of a width -/
theorem ev_crc1 {σ : L2.St} {H : Hp} {t1 t2 : TE} {E : XK} {a : Addr} {ds : List Nat} {w r : Nat} (h1 : Ev t1 σ H (.ref a)) (hS : SqL K H a ((cs ds).map V.int)) (h2 : Ev t2 σ H (.int (r : Int))) (hr : r < 2 ^ w) (hd : ∀ d ∈ ds, d < 256) : Ev (tCall (sp_crc K w) [] E (tCons t1 (tCons t2 tNil))) σ H (.int ((crcN w (TW w) r ds : Nat) : Int)) :=
  ev_call (ea_cons h1 (ea_cons h2 ea_nil)) fun H1 e Q q _ => ⟨a, ds, r, rfl, ex_l e hS, hr, hd, q⟩
theorem ev_crc0 {σ : L2.St} {H : Hp} {t1 : TE} {E : XK} {a : Addr} {ds : List Nat} {w : Nat} (h1 : Ev t1 σ H (.ref a)) (hS : SqL K H a ((cs ds).map V.int)) (hd : ∀ d ∈ ds, d < 256) : Ev (tCall (sp_crc K w) [.int 0] E (tCons t1 tNil)) σ H (.int ((crcN w (TW w) 0 ds : Nat) : Int)) :=
  ev_call (ea_cons h1 ea_nil) fun H1 e Q q _ => ⟨a, ds, 0, rfl, ex_l e hS, Nat.two_pow_pos _, hd, q⟩
theorem ev_crcK {σ : L2.St} {H : Hp} {t1 t2 : TE} {E : XK} {a : Addr} {ds : List Nat} {w r : Nat} (h1 : Ev t1 σ H (.ref a)) (hS : SqL K H a ((cs ds).map V.int)) (h2 : Ev t2 σ H (.int (r : Int))) (hr : r < 2 ^ w) (hd : ∀ d ∈ ds, d < 256) : Ev (tCallN 1 1 (sp_crc K w) (fun us ws => us ++ ws) E (tCons t1 tNil) (tCons t2 tNil)) σ H (.int ((crcN w (TW w) r ds : Nat) : Int)) := fun H1 e Q q =>
  h1 H1 e _ fun H2 e2 => h2 H2 (e.trans e2) _ fun H3 e3 => ⟨rfl, rfl, a, ds, r, rfl, ex_l ((e.trans e2).trans e3) hS, hr, hd, fun H4 e4 => q H4 ((e2.trans e3).trans e4)⟩
theorem two_of {ns : List Int} (h : (ns.length : Int) = 2) : ∃ x y, ns = [x, y] := by
  match ns, h with
  | [x, y], _ => exact ⟨x, y, rfl⟩
theorem three_of {ns : List Int} (h : (ns.length : Int) = 3) : ∃ x y z, ns = [x, y, z] := by
  match ns, h with
  | [x, y, z], _ => exact ⟨x, y, z, rfl⟩
theorem q_forS {σ : L2.St} {H : Hp} {D : Ends} {tu tz : TS} {tl : TE} {g : TG} {xs : List V} (h : EvS K tl σ H xs) (k : ∀ p H1, Ex H H1 → SqL K H1 p xs → tSeq (tFor (iList K (tC (.ref p))) g tu) tz D σ H1) : tSeq (tFor (iList K tl) g tu) tz D σ H := h H (Ex.refl H) _ fun p H1 e hp => k p H1 e hp

def fsH (x0 x1 x2 x3 x4 x5 x6 : V) : List (Str × V) := [("variable", x0), ("block_size", x1), ("rate", x2), ("channels", x3), ("assignment", x4), ("depth", x5), ("number", x6)]
def sp_hinit (C : Addr) : Sp := fun vs H Q _ => ∃ (a dx : Addr) (x0 x1 x2 x3 x4 x5 x6 : V), vs = [.ref a, x0, x1, x2, x3, x4, x5, x6] ∧ H a = some (.ins C dx []) ∧ ∀ H', FrO a H H' → H' a = some (.ins C dx (fsH x0 x1 x2 x3 x4 x5 x6)) → Q .non H'
theorem ok_FrameHeader_init (T : TX K mg) : FnOk P w K mg base CX0 1 T.a_FrameHeader_init T.d_FrameHeader_init ["self", "variable", "block_size", "rate", "channels", "assignment", "depth", "number"] (sp_hinit T.C_FrameHeader) := by
  refine T.F_FrameHeader_init.ok sc_FrameHeader_init (fun vs H Q E h => by obtain ⟨a, dx, x0, x1, x2, x3, x4, x5, x6, rfl, _⟩ := h; rfl) (fun cdv A outer s H vs Q E hr h => ?_)
  obtain ⟨a, dx, x0, x1, x2, x3, x4, x5, x6, rfl, ha, k⟩ := h
  refine ⟨_, (pss_cons (ps_fld (pv 0) (pv 1) rfl)
      (pss_cons (ps_fld (pv 0) (pv 2) rfl)
      (pss_cons (ps_fld (pv 0) (pv 3) rfl)
      (pss_cons (ps_fld (pv 0) (pv 4) rfl)
      (pss_cons (ps_fld (pv 0) (pv 5) rfl)
      (pss_cons (ps_fld (pv 0) (pv 6) rfl)
      (pss_one (ps_fld (pv 0) (pv 7) rfl)))))))), ?_⟩
  refine q_fld T.cl_FrameHeader T.n_FrameHeader_variable (v := x0) (ev_var rfl) (ev_var rfl) ha (by decide) fun H1 e1 => ?_
  refine q_fld T.cl_FrameHeader T.n_FrameHeader_block_size (v := x1) (ev_var rfl) (ev_var rfl) upd_same (Nat.le_of_ble_eq_true rfl) fun H2 e2 => ?_
  refine q_fld T.cl_FrameHeader T.n_FrameHeader_rate (v := x2) (ev_var rfl) (ev_var rfl) upd_same (Nat.le_of_ble_eq_true rfl) fun H3 e3 => ?_
  refine q_fld T.cl_FrameHeader T.n_FrameHeader_channels (v := x3) (ev_var rfl) (ev_var rfl) upd_same (Nat.le_of_ble_eq_true rfl) fun H4 e4 => ?_
  refine q_fld T.cl_FrameHeader T.n_FrameHeader_assignment (v := x4) (ev_var rfl) (ev_var rfl) upd_same (Nat.le_of_ble_eq_true rfl) fun H5 e5 => ?_
  refine q_fld T.cl_FrameHeader T.n_FrameHeader_depth (v := x5) (ev_var rfl) (ev_var rfl) upd_same (Nat.le_of_ble_eq_true rfl) fun H6 e6 => ?_
  refine s_fld T.cl_FrameHeader T.n_FrameHeader_number (v := x6) (ev_var rfl) (ev_var rfl) upd_same (Nat.le_of_ble_eq_true rfl) fun H7 e7 => ?_
  exact k _ (((((((FrO.ex (a := a) e1).upd.trans (FrO.ex e2)).upd.trans (FrO.ex e3)).upd.trans (FrO.ex e4)).upd.trans (FrO.ex e5)).upd.trans (FrO.ex e6)).upd.trans (FrO.ex e7)).upd upd_same

/-! ### t.index(x), t a tuple of flat items -/
def rIdxF (K : PySem.W.Frag) : V → List V → Hp → VK → Prop := fun x xs H Q => ∃ (p : Addr) (ys : List V) (z y : V) (j : Nat), x = .ref p ∧ xs = [z] ∧ flatV z = true ∧ SqT K H p ys ∧ ys.all flatV = true ∧ ys[j]? = some y ∧ eqV y z = true ∧ (∀ m u, m < j → ys[m]? = some u → eqV u z = false) ∧ Q (.int (j : Nat)) H
theorem mt_idxF {X : Cx} : MtR X "tuple.index" (rIdxF X.K) := by
  intro pins s σ H x xs v us Q I rx rs h
  obtain ⟨p, ys, z, y, j, rfl, rfl, hz, hq, hfl, hy, hyz, hno, q⟩ := h
  cases rx
  obtain ⟨u, rfl, ru⟩ := vals1 rs
  obtain ⟨its, r, pl, _⟩ := I.tuple hq
  obtain ⟨⟨cls, dd, dt, sl⟩, ho, hc, n, hd⟩ := pl
  simp only at hc hd
  subst hc
  subst hd
  have hl : its.toArray.size = ys.length := by rw [List.size_toArray, ← r.length]
  have hj : j < its.toArray.size := by rw [hl]; exact (List.getElem?_eq_some_iff.mp hy).1
  have at' : ∀ (m : Nat) (hm : m < its.toArray.size), ∃ w, ys[m]? = some w ∧ RelV w its.toArray[m] ∧ flatV w = true := fun m hm => by
    have hm' : m < ys.length := by rw [← hl]; exact hm
    obtain ⟨w, hw, hr⟩ := r.get (List.getElem?_eq_getElem hm')
    have e := (List.getElem?_eq_some_iff.mp hw).2
    refine ⟨ys[m], List.getElem?_eq_getElem hm', ?_, List.all_eq_true.mp hfl _ (List.getElem_mem hm')⟩
    have : its.toArray[m] = w := by rw [← e]; simp
    rw [this]
    exact hr
  refine call_meets PySem.F.slot_tuple_index ⟨_, ho, rfl⟩ PySem.F.entry_tuple_index (PySem.F.args_tuple_index_2 _ _) (TI.tuple_indexAt p its.toArray n dd sl u (eqU z) j hj ?_ ?_)
    ⟨ho, fun w hw => mem_eqAt (x := z) ru hz r hfl w (by simpa using hw), ⟨.int (j : Nat), H, I.tok _, ⟨_, rfl⟩, q⟩⟩
  · obtain ⟨w, h1, h2, h3⟩ := at' j hj
    rw [hy] at h1
    cases h1
    rw [eqU_of h2 h3]
    exact hyz
  · intro m hm hmj
    obtain ⟨w, h1, h2, h3⟩ := at' m hm
    rw [eqU_of h2 h3]
    exact hno m w hmj h1
/-! ### tables of numbers, some of them absent -/
def oV (Tb : List Nat) : List V := Tb.map fun t : Nat => if t = 0 then .non else .int (t : Int)
theorem oV_flat (Tb : List Nat) : (oV Tb).all flatV = true := by
  unfold oV
  rw [List.all_map]
  exact List.all_eq_true.mpr fun t _ => by show flatV (if t = 0 then V.non else .int (t : Int)) = true; split <;> rfl
theorem eqV_o (t v : Nat) : eqV (if t = 0 then V.non else .int (t : Int)) (.int (v : Int)) = decide (0 < v ∧ t = v) ∨ v = 0 := by
  by_cases hv : v = 0
  · exact .inr hv
  · refine .inl ?_
    by_cases ht : t = 0
    · rw [if_pos ht]
      exact (decide_eq_false (by omega)).symm
    · rw [if_neg ht]
      show ((t : Int) == (v : Int)) = _
      by_cases h : t = v
      · rw [h, decide_eq_true ⟨by omega, rfl⟩]
        exact beq_self_eq_true _
      · rw [decide_eq_false (fun z => h z.2)]
        exact beq_eq_false_iff_ne.mpr (by omega)
theorem eqV_z (t : Nat) : eqV (if t = 0 then V.non else .int (t : Int)) (.int ((0 : Nat) : Int)) = false := by
  by_cases ht : t = 0
  · rw [if_pos ht]; rfl
  · rw [if_neg ht]
    show ((t : Int) == ((0 : Nat) : Int)) = false
    exact beq_eq_false_iff_ne.mpr (by omega)
theorem eqV_oV (t v : Nat) : eqV (if t = 0 then V.non else .int (t : Int)) (.int (v : Int)) = decide (0 < v ∧ t = v) := by
  rcases eqV_o t v with h | rfl
  · exact h
  · rw [eqV_z, decide_eq_false (fun z => by omega)]
theorem inV_oV (Tb : List Nat) (v : Nat) : inV (.int (v : Int)) (oV Tb) = decide (0 < v ∧ v ∈ Tb) := by
  unfold inV oV
  rw [List.any_map, Bool.eq_iff_iff, List.any_eq_true, decide_eq_true_iff]
  constructor
  · rintro ⟨t, ht, h⟩
    have h : eqV (if t = 0 then V.non else .int (t : Int)) (.int (v : Int)) = true := h
    rw [eqV_oV] at h
    obtain ⟨h1, rfl⟩ := of_decide_eq_true h
    exact ⟨h1, ht⟩
  · rintro ⟨h1, h2⟩
    refine ⟨v, h2, ?_⟩
    show eqV (if v = 0 then V.non else .int (v : Int)) (.int (v : Int)) = true
    rw [eqV_oV]
    exact decide_eq_true ⟨h1, rfl⟩
section
variable {K : PySem.W.Frag} {σ : L2.St} {H : Hp} {ta : TE} {p : Addr} {Tb : List Nat} {v : Nat}
theorem ev_inO (hs : ∀ H, SqT K H p (oV Tb)) (h : Ev ta σ H (.int (v : Int))) : Ev (tOp (rIn K false) ta (tC (.ref p))) σ H (.bl (decide (0 < v ∧ v ∈ Tb))) := Ev.is (ev_op h ev_c (rv_isT (hs H) rfl (oV_flat Tb))) (congrArg V.bl (inV_oV Tb v))
theorem idx_of {l : List Nat} {v : Nat} (h : v ∈ l) : l[l.idxOf v]? = some v ∧ ∀ m, m < l.idxOf v → l[m]? ≠ some v := by
  have h1 := List.idxOf_lt_length_of_mem h
  refine ⟨?_, fun m hm e => ?_⟩
  · rw [List.getElem?_eq_getElem h1, List.getElem_idxOf]
  · have hml := (List.getElem?_eq_some_iff.mp e).1
    have := List.not_of_lt_findIdx (p := (· == v)) (xs := l) (i := m) hm
    have e2 := (List.getElem?_eq_some_iff.mp e).2
    simp [e2] at this
theorem ev_idxO (hs : ∀ H, SqT K H p (oV Tb)) (hy : ∃ o, K.lookup p = some o ∧ o.cls = .type "tuple" ∧ o.dict = none) (h : Ev ta σ H (.int (v : Int))) (hv : 0 < v) (hm : v ∈ Tb) : Ev (tBM K "tuple" (rIdxF K) (tC (.ref p)) (tCons ta tNil)) σ H (.int ((Tb.idxOf v : Nat) : Int)) := fun H1 e Q q =>
  ⟨.inr (.inl ⟨rfl, hy⟩), h H1 e _ fun H2 e2 => ⟨p, oV Tb, .int (v : Int), .int (v : Int), Tb.idxOf v, rfl, rfl, rfl, hs H2, oV_flat Tb, by unfold oV; rw [List.getElem?_map, (idx_of hm).1]; show some (if v = 0 then V.non else .int (v : Int)) = _; rw [if_neg (by omega)], beq_self_eq_true _, fun m u hlt hu => by
    unfold oV at hu
    rw [List.getElem?_map] at hu
    obtain ⟨t, ht, rfl⟩ := Option.map_eq_some_iff.mp hu
    rw [eqV_oV]
    exact decide_eq_false fun z => (idx_of hm).2 m hlt (by rw [ht, z.2]), q H2 e2⟩⟩
end

theorem q_mkw {C : Addr} {E : XK} {σ : L2.St} {H : Hp} {D : Ends} {tz : TS} {i : Nat} (k : ∀ a L H', H a = none → H L = none → Ex H H' → WrAt C H' a L [] → tz D (σ.set i (some (.ref a))) H') : tSeq (tAsg (tMake C (sp_winit C) [] E tNil) (gName i)) tz D σ H := mk_w (σ := σ) (Q := fun x H' => tz D (σ.set i (some x)) H') k

theorem ev_intB {σ : L2.St} {H : Hp} {te : TE} {b : Bool} (h : Ev te σ H (.bl b)) : Ev (tCB (fun xs H Q => (∃ i, xs = [V.int i] ∧ Q (V.int i) H) ∨ ∃ k, xs = [V.bl k] ∧ Q (V.int (if k = true then 1 else 0)) H) (tCons te tNil)) σ H (.int (if b = true then 1 else 0)) :=
  ev_cb (ea_cons h ea_nil) fun H1 _ Q q => .inr ⟨b, rfl, q H1 (Ex.refl H1)⟩

/-! ### codes of a header -/
def bsT : List Nat := [0, 192, 576, 1152, 2304, 4608, 0, 0, 256, 512, 1024, 2048, 4096, 8192, 16384, 32768]
def rtT : List Nat := [0, 88200, 176400, 192000, 8000, 16000, 22050, 24000, 32000, 44100, 48000, 96000, 0, 0, 0, 0]
def dpT : List Nat := [0, 8, 12, 0, 16, 20, 24, 32]
theorem oV_bs : oV bsT = [V.non, V.int 192, V.int 576, V.int 1152, V.int 2304, V.int 4608, V.non, V.non, V.int 256, V.int 512, V.int 1024, V.int 2048, V.int 4096, V.int 8192, V.int 16384, V.int 32768] := by rfl
theorem oV_rt : oV rtT = [V.non, V.int 88200, V.int 176400, V.int 192000, V.int 8000, V.int 16000, V.int 22050, V.int 24000, V.int 32000, V.int 44100, V.int 48000, V.int 96000, V.non, V.non, V.non, V.non] := by rfl
theorem oV_dp : oV dpT = [V.non, V.int 8, V.int 12, V.non, V.int 16, V.int 20, V.int 24, V.int 32] := by rfl
theorem s_bs (T : TX K mg) : ∀ H, SqT K H T.A_BLOCK_SIZES (oV bsT) := fun H => by rw [oV_bs]; exact T.s_BLOCK_SIZES H
theorem s_rt (T : TX K mg) : ∀ H, SqT K H T.A_RATES (oV rtT) := fun H => by rw [oV_rt]; exact T.s_RATES H
theorem s_dp (T : TX K mg) : ∀ H, SqT K H T.A_DEPTHS (oV dpT) := fun H => by rw [oV_dp]; exact T.s_DEPTHS H
def stT : List Str := ["left-side", "side-right", "mid-side"]
def szC (s : Nat) : Nat := if 0 < s ∧ s ∈ bsT then bsT.idxOf s else if s ≤ 256 then 6 else 7
def rtC (r : Nat) : Nat := if 0 < r ∧ r ∈ rtT then rtT.idxOf r else if 0 < r ∧ r % 1000 = 0 ∧ r ≤ 255000 then 12 else if 1 ≤ r ∧ r ≤ 65535 then 13 else if 0 < r ∧ r % 10 = 0 ∧ r ≤ 655350 then 14 else 0
def dpC (d : Nat) : Nat := if 0 < d ∧ d ∈ dpT then dpT.idxOf d else 0
def szB (s : Nat) : List Nat := if szC s = 6 then [s - 1] else if szC s = 7 then [(s - 1) / 256, (s - 1) % 256] else []
def rtB (r : Nat) : List Nat := if rtC r = 12 then [r / 1000] else if rtC r = 13 then [r / 256, r % 256] else if rtC r = 14 then [r / 10 / 256, r / 10 % 256] else []
theorem szC_lt (s : Nat) : szC s < 16 := by
  unfold szC
  split
  · rename_i h; exact List.idxOf_lt_length_of_mem h.2
  · split <;> omega
theorem rtC_lt (s : Nat) : rtC s < 16 := by
  unfold rtC
  split
  · rename_i h; exact List.idxOf_lt_length_of_mem h.2
  · split
    · omega
    · split
      · omega
      · split <;> omega
theorem dpC_lt (s : Nat) : dpC s < 8 := by
  unfold dpC
  split
  · rename_i h; exact List.idxOf_lt_length_of_mem h.2
  · omega
structure Hd where
  (vr : Bool) (bz rt ch : Nat) (wy : Str) (dp nm cc : Nat)
structure okHd (h : Hd) : Prop where
  b1 : 1 ≤ h.bz
  b2 : h.bz ≤ 65535
  r1 : h.rt ≤ 1048575
  d1 : 4 ≤ h.dp
  d2 : h.dp ≤ 32
  n1 : h.nm < 2 ^ 36
  n2 : h.vr = false → h.nm ≤ 2147483647
  c1 : (h.cc < 8 ∧ h.wy = "independent" ∧ h.ch = h.cc + 1) ∨ (∃ i, i < 3 ∧ h.cc = 8 + i ∧ h.ch = 2 ∧ stT[i]? = some h.wy)
def HAt (C : Addr) (H : Hp) (p : Addr) (h : Hd) : Prop := ∃ dx, H p = some (.ins C dx (fsH (.bl h.vr) (.int (h.bz : Int)) (.int (h.rt : Int)) (.int (h.ch : Int)) (.str h.wy) (.int (h.dp : Int)) (.int (h.nm : Int))))
theorem HAt.mono {C p : Addr} {H H' : Hp} {l : Hd} (h : HAt C H p l) (e : Ex H H') : HAt C H' p l := by obtain ⟨dx, g⟩ := h; exact ⟨dx, e _ _ g⟩
def sp_szc : Sp := fun vs H Q _ => ∃ s : Nat, vs = [.int (s : Int)] ∧ RetV (.int ((szC s : Nat) : Int)) H Q
theorem ok_size_code (T : TX K mg) : FnOk P w K mg base CX0 1 T.a_size_code T.d_size_code ["block_size"] sp_szc := by
  refine T.F_size_code.ok sc_size_code (fun vs H Q E h => by obtain ⟨s, rfl, _⟩ := h; rfl) (fun cdv A outer s0 H vs Q E hr h => ?_)
  obtain ⟨s, rfl, k⟩ := h
  refine ⟨_, (pss_cons (ps_if (pt_cmpR op_in_seq (pv 0) (pe_glob (v := V.ref T.A_BLOCK_SIZES) (by rfl) T.c_BLOCK_SIZES rfl) (by with_unfolding_all rfl)) (pss_one (ps_ret (pe_bm PySem.F.plainAttrs_tuple PySem.F.slot_tuple_index PySem.F.type_tuple_index mt_idxF (pe_glob (v := V.ref T.A_BLOCK_SIZES) (by rfl) T.c_BLOCK_SIZES rfl) (pa_cons (pv 0) pa_nil)))) pss_nil)
      (pss_cons (ps_if (pt_cmpR op_le (pv 0) pe_int (nomark _)) (pss_one (ps_ret pe_int)) pss_nil)
      (pss_one (ps_ret pe_int)))), ?_⟩
  refine q_when (et_test (ev_inO (Tb := bsT) (s_bs T) (ev_var rfl))) (fun hb H1 e1 => ?_) (fun hb H1 e1 => ?_)
  · have hb := of_decide_eq_true hb
    exact s_ret (ev_idxO (Tb := bsT) (s_bs T) T.y_BLOCK_SIZES (ev_var rfl) hb.1 hb.2) fun H2 e2 => by have := k H2 (e1.trans e2); unfold szC at this; rwa [if_pos hb] at this
  · have hb := of_decide_eq_false hb
    refine q_when (b := decide (s ≤ 256)) (et_test (Ev.is (ev_I0 (g := fun i j => .bl (decide (i ≤ j))) (ev_var rfl) ev_c) (congrArg V.bl (decide_eq_decide.mpr (by omega))))) (fun hc H2 e2 => ?_) (fun hc H2 e2 => ?_)
    · exact s_ret ev_c fun H3 e3 => by have := k H3 (e1.trans (e2.trans e3)); unfold szC at this; rwa [if_neg hb, if_pos (of_decide_eq_true hc)] at this
    · exact s_ret ev_c fun H3 e3 => by have := k H3 (e1.trans (e2.trans e3)); unfold szC at this; rwa [if_neg hb, if_neg (of_decide_eq_false hc)] at this
def sp_rtc : Sp := fun vs H Q _ => ∃ s : Nat, vs = [.int (s : Int)] ∧ RetV (.int ((rtC s : Nat) : Int)) H Q
theorem et_and3 {σ : L2.St} {H : Hp} {ta : TE} {r m l : Nat} (h : Ev ta σ H (.int (r : Int))) (hm : 0 < m) : EvT (tAnd (tTest (tOp (rI0 fun i j => .bl (decide (j < i))) ta (tC (.int 0)))) (tAnd (tTest (tOp rEq (tOp (rI (fun _ j => 0 < j) fun i j => .int (i % j)) ta (tC (.int (m : Int)))) (tC (.int 0)))) (tTest (tOp (rI0 fun i j => .bl (decide (i ≤ j))) ta (tC (.int (l : Int))))))) σ H (decide (0 < r ∧ r % m = 0 ∧ r ≤ l)) := by
  refine et_is (et_and (a := decide (0 < r)) (b := decide (r % m = 0) && decide (r ≤ l)) (et_test (Ev.is (ev_I0 h ev_c) (congrArg V.bl (decide_eq_decide.mpr (by omega))))) fun _ => et_and (a := decide (r % m = 0)) (b := decide (r ≤ l)) (et_test (Ev.is (ev_eq (ev_I h ev_c (by omega)) ev_c rfl) (congrArg V.bl (decide_eq_decide.mpr ⟨fun z => by have := V.int.inj z; omega, fun z => congrArg V.int (by omega)⟩)))) fun _ => et_test (Ev.is (ev_I0 h ev_c) (congrArg V.bl (decide_eq_decide.mpr (show (r : Int) ≤ (l : Int) ↔ r ≤ l by omega))))) ?_
  by_cases h1 : 0 < r <;> by_cases h2 : r % m = 0 <;> by_cases h3 : r ≤ l <;> simp [h1, h2, h3]
theorem ok_rate_code (T : TX K mg) : FnOk P w K mg base CX0 1 T.a_rate_code T.d_rate_code ["rate"] sp_rtc := by
  refine T.F_rate_code.ok sc_rate_code (fun vs H Q E h => by obtain ⟨s, rfl, _⟩ := h; rfl) (fun cdv A outer s0 H vs Q E hr h => ?_)
  obtain ⟨r, rfl, k⟩ := h
  refine ⟨_, (pss_cons (ps_if (pt_cmpR op_in_seq (pv 0) (pe_glob (v := V.ref T.A_RATES) (by rfl) T.c_RATES rfl) (by with_unfolding_all rfl)) (pss_one (ps_ret (pe_bm PySem.F.plainAttrs_tuple PySem.F.slot_tuple_index PySem.F.type_tuple_index mt_idxF (pe_glob (v := V.ref T.A_RATES) (by rfl) T.c_RATES rfl) (pa_cons (pv 0) pa_nil)))) pss_nil)
      (pss_cons (ps_if (PW.pt (pw_and (pt_cmpR op_gt (pv 0) pe_int (nomark _)) (pw_and (pt_cmpR op_eq (pe_op op_mod (pv 0) pe_int) pe_int (nomark _)) (pw_and1 (pt_cmpR op_le (pv 0) pe_int (nomark _)))))) (pss_one (ps_ret pe_int)) pss_nil)
      (pss_cons (ps_if (pt_chain op_le op_le pe_int (pv 0) pe_int) (pss_one (ps_ret pe_int)) pss_nil)
      (pss_cons (ps_if (PW.pt (pw_and (pt_cmpR op_gt (pv 0) pe_int (nomark _)) (pw_and (pt_cmpR op_eq (pe_op op_mod (pv 0) pe_int) pe_int (nomark _)) (pw_and1 (pt_cmpR op_le (pv 0) pe_int (nomark _)))))) (pss_one (ps_ret pe_int)) pss_nil)
      (pss_one (ps_ret pe_int)))))), ?_⟩
  refine q_when (et_test (ev_inO (Tb := rtT) (s_rt T) (ev_var rfl))) (fun hb H1 e1 => ?_) (fun hb H1 e1 => ?_)
  · have hb := of_decide_eq_true hb
    exact s_ret (ev_idxO (Tb := rtT) (s_rt T) T.y_RATES (ev_var rfl) hb.1 hb.2) fun H2 e2 => by have := k H2 (e1.trans e2); unfold rtC at this; rwa [if_pos hb] at this
  have hb := of_decide_eq_false hb
  refine q_when (et_and3 (r := r) (m := 1000) (l := 255000) (ev_var rfl) (by decide)) (fun hc H2 e2 => ?_) (fun hc H2 e2 => ?_)
  · exact s_ret ev_c fun H3 e3 => by have := k H3 (e1.trans (e2.trans e3)); unfold rtC at this; rwa [if_neg hb, if_pos (of_decide_eq_true hc)] at this
  have hc := of_decide_eq_false hc
  refine q_when (b := decide (1 ≤ r ∧ r ≤ 65535)) (et_test (Ev.is (ev_chain ev_c (ev_var rfl) ev_c) (congrArg V.bl (by by_cases h1 : 1 ≤ r <;> by_cases h2 : r ≤ 65535 <;> simp [h1, h2] <;> omega)))) (fun hd H3 e3 => ?_) (fun hd H3 e3 => ?_)
  · exact s_ret ev_c fun H4 e4 => by have := k H4 (e1.trans (e2.trans (e3.trans e4))); unfold rtC at this; rwa [if_neg hb, if_neg hc, if_pos (of_decide_eq_true hd)] at this
  have hd := of_decide_eq_false hd
  refine q_when (et_and3 (r := r) (m := 10) (l := 655350) (ev_var rfl) (by decide)) (fun he H4 e4 => ?_) (fun he H4 e4 => ?_)
  · exact s_ret ev_c fun H5 e5 => by have := k H5 (e1.trans (e2.trans (e3.trans (e4.trans e5)))); unfold rtC at this; rwa [if_neg hb, if_neg hc, if_neg hd, if_pos (of_decide_eq_true he)] at this
  · exact s_ret ev_c fun H5 e5 => by have := k H5 (e1.trans (e2.trans (e3.trans (e4.trans e5)))); unfold rtC at this; rwa [if_neg hb, if_neg hc, if_neg hd, if_neg (of_decide_eq_false he)] at this
def sp_dpc : Sp := fun vs H Q _ => ∃ s : Nat, vs = [.int (s : Int)] ∧ RetV (.int ((dpC s : Nat) : Int)) H Q
theorem ok_depth_code (T : TX K mg) : FnOk P w K mg base CX0 1 T.a_depth_code T.d_depth_code ["depth"] sp_dpc := by
  refine T.F_depth_code.ok sc_depth_code (fun vs H Q E h => by obtain ⟨s, rfl, _⟩ := h; rfl) (fun cdv A outer s0 H vs Q E hr h => ?_)
  obtain ⟨s, rfl, k⟩ := h
  refine ⟨_, (pss_cons (ps_if (pt_cmpR op_in_seq (pv 0) (pe_glob (v := V.ref T.A_DEPTHS) (by rfl) T.c_DEPTHS rfl) (by with_unfolding_all rfl)) (pss_one (ps_ret (pe_bm PySem.F.plainAttrs_tuple PySem.F.slot_tuple_index PySem.F.type_tuple_index mt_idxF (pe_glob (v := V.ref T.A_DEPTHS) (by rfl) T.c_DEPTHS rfl) (pa_cons (pv 0) pa_nil)))) pss_nil)
      (pss_one (ps_ret pe_int))), ?_⟩
  refine q_when (et_test (ev_inO (Tb := dpT) (s_dp T) (ev_var rfl))) (fun hb H1 e1 => ?_) (fun hb H1 e1 => ?_)
  · have hb := of_decide_eq_true hb
    exact s_ret (ev_idxO (Tb := dpT) (s_dp T) T.y_DEPTHS (ev_var rfl) hb.1 hb.2) fun H2 e2 => by have := k H2 (e1.trans e2); unfold dpC at this; rwa [if_pos hb] at this
  · exact s_ret ev_c fun H2 e2 => by have := k H2 (e1.trans e2); unfold dpC at this; rwa [if_neg (of_decide_eq_false hb)] at this
def sp_chc (C : Addr) : Sp := fun vs H Q _ => ∃ (p : Addr) (h : Hd), vs = [.ref p] ∧ HAt C H p h ∧ okHd h ∧ RetV (.int ((h.cc : Nat) : Int)) H Q
theorem ev_idxS {p : Addr} {σ : L2.St} {H : Hp} {ta : TE} {ys : List Str} {z : Str} {j : Nat} (hs : ∀ H, SqT K H p (ys.map V.str)) (hy : ∃ o, K.lookup p = some o ∧ o.cls = .type "tuple" ∧ o.dict = none) (h : Ev ta σ H (.str z)) (hj : ys[j]? = some z) (hno : ∀ m u, m < j → ys[m]? = some u → eqV (.str u) (.str z) = false) : Ev (tBM K "tuple" (rIdxF K) (tC (.ref p)) (tCons ta tNil)) σ H (.int ((j : Nat) : Int)) := fun H1 e Q q =>
  ⟨.inr (.inl ⟨rfl, hy⟩), h H1 e _ fun H2 e2 => ⟨p, ys.map V.str, .str z, .str z, j, rfl, rfl, rfl, hs H2, flat_strs ys, by rw [List.getElem?_map, hj]; rfl, beq_self_eq_true _, fun m u hlt hu => by
    rw [List.getElem?_map] at hu
    obtain ⟨t, ht, rfl⟩ := Option.map_eq_some_iff.mp hu
    exact hno m t hlt ht, q H2 e2⟩⟩
theorem ok_channel_code (T : TX K mg) : FnOk P w K mg base CX0 1 T.a_channel_code T.d_channel_code ["header"] (sp_chc T.C_FrameHeader) := by
  refine T.F_channel_code.ok sc_channel_code (fun vs H Q E h => by obtain ⟨p, h, rfl, _⟩ := h; rfl) (fun cdv A outer s0 H vs Q E hr h => ?_)
  obtain ⟨p, h, rfl, ⟨dx, hp⟩, ok, k⟩ := h
  refine ⟨_, (pss_cons (ps_if (pt_cmpR op_in_seq (pe_fld (pv 0) rfl) (pe_glob (v := V.ref T.A_STEREO) (by rfl) T.c_STEREO rfl) (by with_unfolding_all rfl)) (pss_one (ps_ret (pe_op op_add pe_int (pe_bm PySem.F.plainAttrs_tuple PySem.F.slot_tuple_index PySem.F.type_tuple_index mt_idxF (pe_glob (v := V.ref T.A_STEREO) (by rfl) T.c_STEREO rfl) (pa_cons (pe_fld (pv 0) rfl) pa_nil))))) pss_nil)
      (pss_one (ps_ret (pe_op op_sub (pe_fld (pv 0) rfl) pe_int)))), ?_⟩
  have fa : ∀ {H1 : Hp}, Ex H H1 → Ev (tFld K (tVar 0) "assignment") [some (.ref p)] H1 (.str h.wy) := fun e => ev_fld T.cl_FrameHeader T.n_FrameHeader_assignment (ev_var rfl) (e _ _ hp) rfl
  rcases ok.c1 with ⟨c1, c2, c3⟩ | ⟨i, hi, c1, c2, c3⟩
  · rw [c2] at fa
    refine q_when (b := false) (et_is (et_test (ev_op (fa (Ex.refl _)) ev_c (rv_isT (T.s_STEREO _) rfl rfl))) (by decide +kernel)) (fun hb => by cases hb) fun _ H1 e1 => ?_
    exact s_ret (Ev.is (ev_I0 (g := fun i j => .int (i - j)) (ev_fld T.cl_FrameHeader T.n_FrameHeader_channels (v := .int (h.ch : Int)) (ev_var rfl) (e1 _ _ hp) rfl) ev_c) (congrArg V.int (by omega))) fun H2 e2 => k H2 (e1.trans e2)
  · have hin : inV (.str h.wy) [V.str "left-side", V.str "side-right", V.str "mid-side"] = true := by
      match i, hi, c3 with
      | 0, _, c3 => rw [← Option.some.inj (show some ("left-side" : Str) = some h.wy from c3)]; decide +kernel
      | 1, _, c3 => rw [← Option.some.inj (show some ("side-right" : Str) = some h.wy from c3)]; decide +kernel
      | 2, _, c3 => rw [← Option.some.inj (show some ("mid-side" : Str) = some h.wy from c3)]; decide +kernel
    have hno : ∀ m u, m < i → stT[m]? = some u → eqV (.str u) (.str h.wy) = false := fun m u hm hu => by
      match i, hi, c3 with
      | 0, _, c3 => omega
      | 1, _, c3 =>
        rw [← Option.some.inj (show some ("side-right" : Str) = some h.wy from c3)]
        match m, hm with
        | 0, _ => rw [← Option.some.inj (show some ("left-side" : Str) = some u from hu)]; decide +kernel
      | 2, _, c3 =>
        rw [← Option.some.inj (show some ("mid-side" : Str) = some h.wy from c3)]
        match m, hm with
        | 0, _ => rw [← Option.some.inj (show some ("left-side" : Str) = some u from hu)]; decide +kernel
        | 1, _ => rw [← Option.some.inj (show some ("side-right" : Str) = some u from hu)]; decide +kernel
    refine q_when (b := true) (et_is (et_test (ev_op (fa (Ex.refl _)) ev_c (rv_isT (T.s_STEREO _) rfl rfl))) hin) (fun _ H1 e1 => ?_) (fun hb => by cases hb)
    exact s_ret (Ev.is (ev_I0 (g := fun i j => .int (i + j)) ev_c (ev_idxS (ys := stT) T.s_STEREO T.y_STEREO (fa e1) c3 hno)) (congrArg V.int (by omega))) fun H2 e2 => k H2 (e1.trans e2)
/-! ### bytes of a header -/
theorem bits16 {x : Nat} (h : x < 65536) : bitsN 16 x = [x / 256, x % 256].flatMap bits8 := by
  have := bitsN_cat (n := 8) (w := 8) (h := x / 256) (v := x % 256) (by omega)
  rw [show x / 256 * 2 ^ 8 + x % 256 = x by omega] at this
  rw [List.flatMap_cons, List.flatMap_cons, List.flatMap_nil, List.append_nil, bits8_N, bits8_N]
  exact this
def sp_wsz (C : Addr) : Sp := fun vs H Q _ => ∃ (a L : Addr) (ms : List Bool) (s : Nat), vs = [.ref a, .int ((szC s : Nat) : Int), .int (s : Int)] ∧ WrAt C H a L ms ∧ 1 ≤ s ∧ s ≤ 65535 ∧ ms.length ≤ 100000 ∧ ∀ H', Fr a L H H' → WrAt C H' a L (ms ++ (szB s).flatMap bits8) → Q .non H'
theorem szC6 {s : Nat} (h : szC s = 6) : s ≤ 256 := by
  unfold szC at h
  split at h
  · rename_i hm
    have := (idx_of hm.2).1
    rw [h] at this
    cases this
    omega
  · split at h
    · assumption
    · omega
theorem ok_write_block_size (T : TX K mg) : FnOk P w K mg base CX0 2 T.a_write_block_size T.d_write_block_size ["writer", "code", "block_size"] (sp_wsz T.C_BitWriter) := by
  refine T.F_write_block_size.ok sc_write_block_size (fun vs H Q E h => by obtain ⟨a, L, ms, s, rfl, _⟩ := h; rfl) (fun cdv A outer s0 H vs Q E hr h => ?_)
  obtain ⟨a, L, ms, s, rfl, hW, h1, h2, hl, k⟩ := h
  refine ⟨_, (pss_one (ps_if (pt_cmpR op_eq (pv 1) pe_int (nomark _)) (pss_one (ps_expr (pe_meth (pv 0) T.cl_BitWriter T.me_BitWriter_write (ok_BitWriter_write T) (hr.mono (by decide)) T.b_BitWriter_write .nil pass0 (pa_cons pe_int (pa_cons (pe_op op_sub (pv 2) pe_int) pa_nil))))) (pss_one (ps_if (pt_cmpR op_eq (pv 1) pe_int (nomark _)) (pss_one (ps_expr (pe_meth (pv 0) T.cl_BitWriter T.me_BitWriter_write (ok_BitWriter_write T) (hr.mono (by decide)) T.b_BitWriter_write .nil pass0 (pa_cons pe_int (pa_cons (pe_op op_sub (pv 2) pe_int) pa_nil))))) pss_nil)))), ?_⟩
  have tst : ∀ (n : Nat) {σ : L2.St} {H' : Hp}, σ[1]? = some (some (.int ((szC s : Nat) : Int))) → EvT (tTest (tOp rEq (tVar 1) (tC (.int (n : Int))))) σ H' (decide (szC s = n)) := fun n σ H' h => et_test (Ev.is (ev_eq (ev_var h) ev_c rfl) (congrArg V.bl (decide_eq_decide.mpr ⟨fun z => by have := V.int.inj z; omega, fun z => by rw [z]⟩)))
  refine s_if (tst 6 rfl) (fun hb H1 e1 => ?_) (fun hb H1 e1 => ?_)
  · have hb := of_decide_eq_true hb
    obtain ⟨dx, ws, hd, nn, ha, _⟩ := (hW.ex e1).len
    have h6 := szC6 hb
    refine s_dropM (vs := [.int 8, .int ((s - 1 : Nat) : Int)]) (ev_var rfl) ha rfl (ea_cons ev_c (ea_cons (Ev.is (ev_I0 (g := fun i j => .int (i - j)) (ev_var rfl) ev_c) (congrArg V.int (by omega))) ea_nil)) fun H2 e2 => ⟨a, L, ms, 8, ((s - 1 : Nat) : Int), rfl, hW.ex (e1.trans e2), by omega, by omega, fun H3 hF hW3 => k H3 ((Fr.ex (e1.trans e2)).trans hF) ?_⟩
    rw [self_mod (show s - 1 < 2 ^ 8 by omega)] at hW3
    unfold szB
    rw [if_pos hb, List.flatMap_cons, List.flatMap_nil, List.append_nil, bits8_N]
    exact hW3
  have hb := of_decide_eq_false hb
  refine s_when (tst 7 rfl) (fun hc H2 e2 => ?_) (fun hc H2 e2 => ?_)
  · have hc := of_decide_eq_true hc
    have e12 := e1.trans e2
    obtain ⟨dx, ws, hd, nn, ha, _⟩ := (hW.ex e12).len
    refine s_dropM (vs := [.int 16, .int ((s - 1 : Nat) : Int)]) (ev_var rfl) ha rfl (ea_cons ev_c (ea_cons (Ev.is (ev_I0 (g := fun i j => .int (i - j)) (ev_var rfl) ev_c) (congrArg V.int (by omega))) ea_nil)) fun H3 e3 => ⟨a, L, ms, 16, ((s - 1 : Nat) : Int), rfl, hW.ex (e12.trans e3), by omega, by omega, fun H4 hF hW4 => k H4 ((Fr.ex (e12.trans e3)).trans hF) ?_⟩
    rw [self_mod (show s - 1 < 2 ^ 16 by omega), bits16 (by omega)] at hW4
    unfold szB
    rw [if_neg hb, if_pos hc]
    exact hW4
  · refine k H2 (Fr.ex (e1.trans e2)) ?_
    unfold szB
    rw [if_neg hb, if_neg (of_decide_eq_false hc), List.flatMap_nil, List.append_nil]
    exact hW.ex (e1.trans e2)
theorem rtC_hi {r : Nat} (h : 12 ≤ rtC r) : ¬ (0 < r ∧ r ∈ rtT) := fun hm => by
  unfold rtC at h
  rw [if_pos hm] at h
  have h1 := (idx_of hm.2).1
  have h2 : rtT.idxOf r < 16 := List.idxOf_lt_length_of_mem hm.2
  generalize rtT.idxOf r = i at *
  have : i = 12 ∨ i = 13 ∨ i = 14 ∨ i = 15 := by omega
  rcases this with rfl | rfl | rfl | rfl <;> cases h1 <;> omega
theorem rtC_is {r : Nat} (h : 12 ≤ rtC r) : (rtC r = 12 ∧ r ≤ 255000) ∨ (rtC r = 13 ∧ r ≤ 65535) ∨ (rtC r = 14 ∧ r ≤ 655350) := by
  have hn := rtC_hi h
  unfold rtC at *
  rw [if_neg hn] at *
  split
  · exact .inl ⟨rfl, by omega⟩
  · split
    · exact .inr (.inl ⟨rfl, by omega⟩)
    · split
      · exact .inr (.inr ⟨rfl, by omega⟩)
      · rename_i h1 h2 h3
        rw [if_neg h1, if_neg h2, if_neg h3] at h
        omega
def sp_wrt (C : Addr) : Sp := fun vs H Q _ => ∃ (a L : Addr) (ms : List Bool) (r : Nat), vs = [.ref a, .int ((rtC r : Nat) : Int), .int (r : Int)] ∧ WrAt C H a L ms ∧ ms.length ≤ 100000 ∧ ∀ H', Fr a L H H' → WrAt C H' a L (ms ++ (rtB r).flatMap bits8) → Q .non H'
theorem ok_write_rate (T : TX K mg) : FnOk P w K mg base CX0 2 T.a_write_rate T.d_write_rate ["writer", "code", "rate"] (sp_wrt T.C_BitWriter) := by
  refine T.F_write_rate.ok sc_write_rate (fun vs H Q E h => by obtain ⟨a, L, ms, s, rfl, _⟩ := h; rfl) (fun cdv A outer s0 H vs Q E hr h => ?_)
  obtain ⟨a, L, ms, r, rfl, hW, hl, k⟩ := h
  refine ⟨_, (pss_one (ps_if (pt_cmpR op_eq (pv 1) pe_int (nomark _)) (pss_one (ps_expr (pe_meth (pv 0) T.cl_BitWriter T.me_BitWriter_write (ok_BitWriter_write T) (hr.mono (by decide)) T.b_BitWriter_write .nil pass0 (pa_cons pe_int (pa_cons (pe_op op_fdiv (pv 2) pe_int) pa_nil))))) (pss_one (ps_if (pt_cmpR op_eq (pv 1) pe_int (nomark _)) (pss_one (ps_expr (pe_meth (pv 0) T.cl_BitWriter T.me_BitWriter_write (ok_BitWriter_write T) (hr.mono (by decide)) T.b_BitWriter_write .nil pass0 (pa_cons pe_int (pa_cons (pv 2) pa_nil))))) (pss_one (ps_if (pt_cmpR op_eq (pv 1) pe_int (nomark _)) (pss_one (ps_expr (pe_meth (pv 0) T.cl_BitWriter T.me_BitWriter_write (ok_BitWriter_write T) (hr.mono (by decide)) T.b_BitWriter_write .nil pass0 (pa_cons pe_int (pa_cons (pe_op op_fdiv (pv 2) pe_int) pa_nil))))) pss_nil)))))), ?_⟩
  have tst : ∀ (n : Nat) {σ : L2.St} {H' : Hp}, σ[1]? = some (some (.int ((rtC r : Nat) : Int))) → EvT (tTest (tOp rEq (tVar 1) (tC (.int (n : Int))))) σ H' (decide (rtC r = n)) := fun n σ H' h => et_test (Ev.is (ev_eq (ev_var h) ev_c rfl) (congrArg V.bl (decide_eq_decide.mpr ⟨fun z => by have := V.int.inj z; omega, fun z => by rw [z]⟩)))
  refine s_if (tst 12 rfl) (fun hb H1 e1 => ?_) (fun hb H1 e1 => ?_)
  · have hb := of_decide_eq_true hb
    obtain ⟨dx, ws, hd, nn, ha, _⟩ := (hW.ex e1).len
    have h6 := rtC_is (r := r) (by omega)
    refine s_dropM (vs := [.int 8, .int ((r / 1000 : Nat) : Int)]) (ev_var rfl) ha rfl (ea_cons ev_c (ea_cons (Ev.is (ev_I (ev_var rfl) ev_c ⟨by decide, by decide⟩) (congrArg V.int (by omega))) ea_nil)) fun H2 e2 => ⟨a, L, ms, 8, ((r / 1000 : Nat) : Int), rfl, hW.ex (e1.trans e2), by omega, by omega, fun H3 hF hW3 => k H3 ((Fr.ex (e1.trans e2)).trans hF) ?_⟩
    rw [self_mod (show r / 1000 < 2 ^ 8 by omega)] at hW3
    unfold rtB
    rw [if_pos hb, List.flatMap_cons, List.flatMap_nil, List.append_nil, bits8_N]
    exact hW3
  have hb := of_decide_eq_false hb
  refine s_if (tst 13 rfl) (fun hc H2 e2 => ?_) (fun hc H2 e2 => ?_)
  · have hc := of_decide_eq_true hc
    have e12 := e1.trans e2
    have h6 := rtC_is (r := r) (by omega)
    obtain ⟨dx, ws, hd, nn, ha, _⟩ := (hW.ex e12).len
    refine s_dropM (vs := [.int 16, .int (r : Int)]) (ev_var rfl) ha rfl (ea_cons ev_c (ea_cons (ev_var rfl) ea_nil)) fun H3 e3 => ⟨a, L, ms, 16, (r : Int), rfl, hW.ex (e12.trans e3), by omega, by omega, fun H4 hF hW4 => k H4 ((Fr.ex (e12.trans e3)).trans hF) ?_⟩
    rw [self_mod (show r < 2 ^ 16 by omega), bits16 (by omega)] at hW4
    unfold rtB
    rw [if_neg hb, if_pos hc]
    exact hW4
  have hc := of_decide_eq_false hc
  refine s_when (tst 14 rfl) (fun hd H3 e3 => ?_) (fun hd H3 e3 => ?_)
  · have hd := of_decide_eq_true hd
    have e13 := e1.trans (e2.trans e3)
    have h6 := rtC_is (r := r) (by omega)
    obtain ⟨dx, ws, hd', nn, ha, _⟩ := (hW.ex e13).len
    refine s_dropM (vs := [.int 16, .int ((r / 10 : Nat) : Int)]) (ev_var rfl) ha rfl (ea_cons ev_c (ea_cons (Ev.is (ev_I (ev_var rfl) ev_c ⟨by decide, by decide⟩) (congrArg V.int (by omega))) ea_nil)) fun H4 e4 => ⟨a, L, ms, 16, ((r / 10 : Nat) : Int), rfl, hW.ex (e13.trans e4), by omega, by omega, fun H5 hF hW5 => k H5 ((Fr.ex (e13.trans e4)).trans hF) ?_⟩
    rw [self_mod (show r / 10 < 2 ^ 16 by omega), bits16 (by omega)] at hW5
    unfold rtB
    rw [if_neg hb, if_neg hc, if_pos hd]
    exact hW5
  · refine k H3 (Fr.ex (e1.trans (e2.trans e3))) ?_
    unfold rtB
    rw [if_neg hb, if_neg hc, if_neg (of_decide_eq_false hd), List.flatMap_nil, List.append_nil]
    exact hW.ex (e1.trans (e2.trans e3))

/-! ### bits in their place -/
def Has (B : List Bool) (pos : Nat) (bs : List Bool) : Prop := ∃ pre post, B = pre ++ (bs ++ post) ∧ pre.length = pos
theorem Has.l {B x y : List Bool} {pos : Nat} (h : Has B pos (x ++ y)) : Has B pos x := by
  obtain ⟨pre, post, e, h⟩ := h
  exact ⟨pre, y ++ post, by rw [e, List.append_assoc], h⟩
theorem Has.r {B x y : List Bool} {pos : Nat} (h : Has B pos (x ++ y)) : Has B (pos + x.length) y := by
  obtain ⟨pre, post, e, rfl⟩ := h
  exact ⟨pre ++ x, post, by rw [e]; simp only [List.append_assoc], by rw [List.length_append]⟩
theorem Has.len {B x : List Bool} {pos : Nat} (h : Has B pos x) : pos + x.length ≤ B.length := by
  obtain ⟨pre, post, e, rfl⟩ := h
  rw [e, List.length_append, List.length_append]
  omega
theorem Has.val {B : List Bool} {pos w v : Nat} (h : Has B pos (bitsN w v)) (hv : v < 2 ^ w) : valL ((B.drop pos).take w) = v := by
  obtain ⟨pre, post, e, rfl⟩ := h
  rw [e, List.drop_left, List.take_left' (bitsN_len w v), valL_bitsN, Nat.mod_eq_of_lt hv]
def RdD (C : Addr) (H : Hp) (a d : Addr) (ds : List Nat) (pos : Nat) : Prop := RdAt C H a d pos ∧ H d = some (.lst ((cs ds).map V.int)) ∧ (∀ b ∈ ds, b < 256) ∧ ds.length ≤ 100000
theorem RdD.ex {C a d : Addr} {H H1 : Hp} {ds : List Nat} {pos : Nat} (h : RdD C H a d ds pos) (e : Ex H H1) : RdD C H1 a d ds pos := ⟨h.1.ex e, e _ _ h.2.1, h.2.2⟩
theorem RdD.to {C a d : Addr} {H H1 : Hp} {ds : List Nat} {pos pos1 : Nat} (h : RdD C H a d ds pos) (hF : FrA a H H1) (hR : RdAt C H1 a d pos1) : RdD C H1 a d ds pos1 := ⟨hR, hF _ _ (h.1.ne h.2.1) h.2.1, h.2.2⟩
theorem RdD.neT {C a d : Addr} {H : Hp} {ds : List Nat} {pos : Nat} {p : Addr} {xs : List V} (h : RdD C H a d ds pos) (hp : H p = some (.tup xs)) : p ≠ a := by
  obtain ⟨⟨dx, ha⟩, _⟩ := h
  rintro rfl
  rw [ha] at hp
  cases hp
theorem RdD.mut {C a d : Addr} {H : Hp} {ds : List Nat} {pos : Nat} {l : Addr} {o : HO} (h : RdD C H a d ds pos) (h1 : l ≠ a) (h2 : l ≠ d) : RdD C (upd H l o) a d ds pos := by
  obtain ⟨⟨dx, ha⟩, hd, r⟩ := h
  exact ⟨⟨dx, by rw [upd_ne (Ne.symm h1)]; exact ha⟩, by rw [upd_ne (Ne.symm h2)]; exact hd, r⟩

/-! ### a header written -/
def hd4B (h : Hd) : List Nat := [255, 248 + h.vr.toNat, 16 * szC h.bz + rtC h.rt, 16 * h.cc + 2 * dpC h.dp]
def hdB (h : Hd) : List Nat := hd4B h ++ (form h.nm ++ (szB h.bz ++ rtB h.rt))
def hdA (h : Hd) : List Nat := hdB h ++ [crcN 8 T8 0 (hdB h)]
theorem bits4 {a b : Nat} (hb : b < 16) : bits8 (16 * a + b) = bitsN 4 a ++ bitsN 4 b := by
  have := bitsN_cat (n := 4) (w := 4) (h := a) (v := b) hb
  rw [show a * 2 ^ 4 + b = 16 * a + b by omega] at this
  exact this
theorem hd4 {v sc rc cc dc : Nat} (hv : v < 2) (hr : rc < 16) (hd : dc < 8) : ((((((([] ++ bitsN 14 16382) ++ bitsN 1 0) ++ bitsN 1 v) ++ bitsN 4 sc) ++ bitsN 4 rc) ++ bitsN 4 cc) ++ bitsN 3 dc) ++ bitsN 1 0 = [255, 248 + v, 16 * sc + rc, 16 * cc + 2 * dc].flatMap bits8 := by
  have h1 : bitsN 14 16382 ++ (bitsN 1 0 ++ bitsN 1 v) = bits8 255 ++ bits8 (248 + v) := by
    rcases (show v = 0 ∨ v = 1 by omega) with rfl | rfl <;> decide +kernel
  have h2 := bits4 (a := sc) hr
  have h3 := bits4 (a := cc) (b := 2 * dc) (by omega)
  have h4 := bitsN_cat (n := 3) (w := 1) (h := dc) (v := 0) (by decide)
  rw [show dc * 2 ^ 1 + 0 = 2 * dc by omega] at h4
  have h4 : bitsN 4 (2 * dc) = bitsN 3 dc ++ bitsN 1 0 := h4
  rw [List.flatMap_cons, List.flatMap_cons, List.flatMap_cons, List.flatMap_cons, List.flatMap_nil, h2, h3, h4, ← List.append_assoc (bits8 255), ← h1]
  simp only [List.append_assoc, List.nil_append, List.append_nil]
theorem ex_fr {a L : Addr} {H H1 H2 : Hp} (e : Ex H H1) (ha : H a = none) (hl : H L = none) (hF : Fr a L H1 H2) : Ex H H2 := fun b o hb => hF b o (by rintro rfl; rw [ha] at hb; cases hb) (by rintro rfl; rw [hl] at hb; cases hb) (e b o hb)
theorem q_wr {C a L : Addr} {ms : List Bool} {w v : Nat} {wi : Int} {σ : L2.St} {H : Hp} {to tv : TE} {E : XK} {D : Ends} {tz : TS} (h : Ev to σ H (.ref a)) (hW : WrAt C H a L ms) (hwi : wi = (w : Int)) (hv : Ev tv σ H (.int (v : Int))) (hvw : v < 2 ^ w) (hw : w ≤ 64) (hl : ms.length ≤ 200000) (k : ∀ H1, Fr a L H H1 → WrAt C H1 a L (ms ++ bitsN w v) → tz D σ H1) : tSeq (tDrop (tMeth C "write" (sp_wwrite C) [] E to (tCons (tC (.int wi)) (tCons tv tNil)))) tz D σ H := by
  obtain ⟨dx, ws, hd, nn, ha, _⟩ := hW.len
  refine q_dropM (vs := [.int (w : Int), .int (v : Int)]) h ha rfl (ea_cons (Ev.is ev_c (congrArg V.int hwi)) (ea_cons hv ea_nil)) fun H1 e1 => ⟨a, L, ms, w, (v : Int), rfl, hW.ex e1, by omega, by omega, fun H2 hF hW2 => ?_⟩
  rw [self_mod hvw] at hW2
  exact k H2 ((Fr.ex e1).trans hF) hW2
theorem q_dropML {C a dx : Addr} {fs : List (Str × V)} {m : Str} {sp : Sp} {dvs xs : List V} {σ : L2.St} {H : Hp} {to te : TE} {E : XK} {D : Ends} {tz : TS} (h : Ev to σ H (.ref a)) (hx : H a = some (.ins C dx fs)) (hm : fs.lookup m = none) (he : EvL te σ H xs) (k : ∀ p H1, H p = none → Ex H H1 → H1 p = some (.lst xs) → sp (.ref a :: ([.ref p] ++ dvs)) H1 (fun _ H2 => tz D σ H2) E) : tSeq (tDrop (tMeth C m sp dvs E to (tCons te tNil))) tz D σ H :=
  h H (Ex.refl H) _ fun H1 e1 => ⟨a, dx, fs, rfl, e1 _ _ hx, hm, he H1 e1 _ fun p H2 hp e2 g => k p H2 (fresh_back e1 hp) (e1.trans e2) g⟩
theorem form_lt {n : Nat} (hn : n < 2 ^ 36) : ∀ b ∈ form n, b < 256 := fun b hb => by
  unfold form rest at hb
  rcases List.mem_cons.mp hb with rfl | hb
  · by_cases h0 : sz n = 0
    · have hn128 : n < 128 := (sz_lim hn (s := 0) (by decide)).mpr (by omega)
      rw [h0, Nat.mul_zero, Nat.pow_zero, Nat.div_one, show hdn 0 = 0 from rfl]
      omega
    · have h1 : 1 ≤ sz n := by omega
      have h6 := sz_le n
      have hhead := head_lt hn h1
      have hhd := hdn_eq h1 h6
      have hp7 : 2 ^ (7 - sz n) = 2 * 2 ^ (6 - sz n) := by rw [show 7 - sz n = (6 - sz n) + 1 by omega, Nat.pow_succ, Nat.mul_comm]
      have hp6 : 2 ^ (6 - sz n) ≤ 2 ^ 5 := Nat.pow_le_pow_right (by decide) (by omega)
      have hp0 : 0 < 2 ^ (6 - sz n) := Nat.two_pow_pos _
      generalize n / 2 ^ (6 * sz n) = q at *
      omega
  · obtain ⟨k, _, rfl⟩ := List.mem_map.mp hb
    omega
theorem szB_lt {s : Nat} (h : s ≤ 65535) : ∀ b ∈ szB s, b < 256 := fun b hb => by
  unfold szB at hb
  split at hb
  · rename_i h6
    have := szC6 h6
    rw [List.mem_singleton.mp hb]
    omega
  · split at hb
    · rcases List.mem_cons.mp hb with rfl | hb
      · omega
      · rw [List.mem_singleton.mp hb]; omega
    · cases hb
theorem rtB_lt (r : Nat) : ∀ b ∈ rtB r, b < 256 := fun b hb => by
  unfold rtB at hb
  split at hb
  · rename_i h
    have := rtC_is (r := r) (by omega)
    rw [List.mem_singleton.mp hb]
    omega
  · split at hb
    · rename_i h
      have := rtC_is (r := r) (by omega)
      rcases List.mem_cons.mp hb with rfl | hb
      · omega
      · rw [List.mem_singleton.mp hb]; omega
    · split at hb
      · rename_i h
        have := rtC_is (r := r) (by omega)
        rcases List.mem_cons.mp hb with rfl | hb
        · omega
        · rw [List.mem_singleton.mp hb]; omega
      · cases hb
theorem szB_len (s : Nat) : (szB s).length ≤ 2 := by unfold szB; (repeat' split) <;> simp
theorem rtB_len (s : Nat) : (rtB s).length ≤ 2 := by unfold rtB; (repeat' split) <;> simp
theorem okHd.cc {h : Hd} (ok : okHd h) : h.cc ≤ 10 := by
  rcases ok.c1 with ⟨c1, _⟩ | ⟨i, hi, c1, _⟩ <;> omega
theorem hd4_lt {h : Hd} (ok : okHd h) : ∀ b ∈ hd4B h, b < 256 := fun b hb => by
  have h1 := szC_lt h.bz
  have h2 := rtC_lt h.rt
  have h3 := dpC_lt h.dp
  have h4 := ok.cc
  have h5 : h.vr.toNat ≤ 1 := by cases h.vr <;> decide
  unfold hd4B at hb
  simp only [List.mem_cons, List.not_mem_nil, or_false] at hb
  omega
theorem hdB_lt {h : Hd} (ok : okHd h) : ∀ b ∈ hdB h, b < 256 := fun b hb => by
  unfold hdB at hb
  rcases List.mem_append.mp hb with hb | hb
  · exact hd4_lt ok b hb
  · rcases List.mem_append.mp hb with hb | hb
    · exact form_lt ok.n1 b hb
    · rcases List.mem_append.mp hb with hb | hb
      · exact szB_lt ok.b2 b hb
      · exact rtB_lt _ b hb
theorem hdB_len (h : Hd) : (hdB h).length ≤ 15 := by
  have h1 := szB_len h.bz
  have h2 := rtB_len h.rt
  have h3 := sz_le h.nm
  unfold hdB hd4B
  rw [List.length_append, List.length_append, List.length_append, form_len]
  show 4 + _ ≤ _
  omega
theorem crc_lt {h : Hd} (ok : okHd h) : crcN 8 T8 0 (hdB h) < 256 := (crcN_ok tab8 (hdB h) 0 (by decide) (hdB_lt ok)).1
theorem hdA_lt {h : Hd} (ok : okHd h) : ∀ b ∈ hdA h, b < 256 := fun b hb => by
  unfold hdA at hb
  rcases List.mem_append.mp hb with hb | hb
  · exact hdB_lt ok b hb
  · rw [List.mem_singleton.mp hb]; exact crc_lt ok
def sp_whead (CH : Addr) : Sp := fun vs H Q _ => ∃ (p : Addr) (h : Hd), vs = [.ref p] ∧ HAt CH H p h ∧ okHd h ∧ RetL ((cs (hdA h)).map V.int) H Q
theorem ok_write_header (T : TX K mg) : FnOk P w K mg base CX0 3 T.a_write_header T.d_write_header ["header"] (sp_whead T.C_FrameHeader) := by
  refine T.F_write_header.ok sc_write_header (fun vs H Q E h => by obtain ⟨p, h, rfl, _⟩ := h; rfl) (fun cdv A outer s0 H vs Q E hr h => ?_)
  obtain ⟨p, h, rfl, hA, ok, k⟩ := h
  obtain ⟨dx, hp⟩ := id hA
  refine ⟨_, (pss_cons (ps_set (i := 1) sc_write_header.nd rfl (Or.inl rfl) (pe_call (ok_size_code T) (hr.mono (by decide)) (by rfl) T.g_size_code T.F_size_code.kp T.b_size_code .nil pass0 (pa_cons (pe_fld (pv 0) rfl) pa_nil)))
      (pss_cons (ps_set (i := 2) sc_write_header.nd rfl (Or.inl rfl) (pe_call (ok_rate_code T) (hr.mono (by decide)) (by rfl) T.g_rate_code T.F_rate_code.kp T.b_rate_code .nil pass0 (pa_cons (pe_fld (pv 0) rfl) pa_nil)))
      (pss_cons (ps_set (i := 3) sc_write_header.nd rfl (Or.inl rfl) (pe_make0 T.M_BitWriter (ok_BitWriter_init T) (hr.mono (by decide)) (by rfl) T.g_BitWriter T.b_BitWriter_init .nil pass0))
      (pss_cons (ps_expr (pe_meth (pv 3) T.cl_BitWriter T.me_BitWriter_write (ok_BitWriter_write T) (hr.mono (by decide)) T.b_BitWriter_write .nil pass0 (pa_cons pe_int (pa_cons (pe_glob (by rfl) T.c_SYNC_CODE T.r_SYNC_CODE) pa_nil))))
      (pss_cons (ps_expr (pe_meth (pv 3) T.cl_BitWriter T.me_BitWriter_write (ok_BitWriter_write T) (hr.mono (by decide)) T.b_BitWriter_write .nil pass0 (pa_cons pe_int (pa_cons pe_int pa_nil))))
      (pss_cons (ps_expr (pe_meth (pv 3) T.cl_BitWriter T.me_BitWriter_write (ok_BitWriter_write T) (hr.mono (by decide)) T.b_BitWriter_write .nil pass0 (pa_cons pe_int (pa_cons (pe_callTy call_int1 (by rfl) T.m_int PyProof.Rows.boot_int (pa_cons (pe_fld (pv 0) rfl) pa_nil)) pa_nil))))
      (pss_cons (ps_expr (pe_meth (pv 3) T.cl_BitWriter T.me_BitWriter_write (ok_BitWriter_write T) (hr.mono (by decide)) T.b_BitWriter_write .nil pass0 (pa_cons pe_int (pa_cons (pv 1) pa_nil))))
      (pss_cons (ps_expr (pe_meth (pv 3) T.cl_BitWriter T.me_BitWriter_write (ok_BitWriter_write T) (hr.mono (by decide)) T.b_BitWriter_write .nil pass0 (pa_cons pe_int (pa_cons (pv 2) pa_nil))))
      (pss_cons (ps_expr (pe_meth (pv 3) T.cl_BitWriter T.me_BitWriter_write (ok_BitWriter_write T) (hr.mono (by decide)) T.b_BitWriter_write .nil pass0 (pa_cons pe_int (pa_cons (pe_call (ok_channel_code T) (hr.mono (by decide)) (by rfl) T.g_channel_code T.F_channel_code.kp T.b_channel_code .nil pass0 (pa_cons (pv 0) pa_nil)) pa_nil))))
      (pss_cons (ps_expr (pe_meth (pv 3) T.cl_BitWriter T.me_BitWriter_write (ok_BitWriter_write T) (hr.mono (by decide)) T.b_BitWriter_write .nil pass0 (pa_cons pe_int (pa_cons (pe_call (ok_depth_code T) (hr.mono (by decide)) (by rfl) T.g_depth_code T.F_depth_code.kp T.b_depth_code .nil pass0 (pa_cons (pe_fld (pv 0) rfl) pa_nil)) pa_nil))))
      (pss_cons (ps_expr (pe_meth (pv 3) T.cl_BitWriter T.me_BitWriter_write (ok_BitWriter_write T) (hr.mono (by decide)) T.b_BitWriter_write .nil pass0 (pa_cons pe_int (pa_cons pe_int pa_nil))))
      (pss_cons (ps_expr (pe_meth (pv 3) T.cl_BitWriter T.me_BitWriter_append_bytes (ok_BitWriter_append_bytes T) (hr.mono (by decide)) T.b_BitWriter_append_bytes .nil pass0 (pa_cons (pe_call (ok_write_number T) (hr.mono (by decide)) (by rfl) T.g_write_number T.F_write_number.kp T.b_write_number .nil pass0 (pa_cons (pe_fld (pv 0) rfl) pa_nil)) pa_nil)))
      (pss_cons (ps_expr (pe_call (ok_write_block_size T) (hr.mono (by decide)) (by rfl) T.g_write_block_size T.F_write_block_size.kp T.b_write_block_size .nil pass0 (pa_cons (pv 3) (pa_cons (pv 1) (pa_cons (pe_fld (pv 0) rfl) pa_nil)))))
      (pss_cons (ps_expr (pe_call (ok_write_rate T) (hr.mono (by decide)) (by rfl) T.g_write_rate T.F_write_rate.kp T.b_write_rate .nil pass0 (pa_cons (pv 3) (pa_cons (pv 2) (pa_cons (pe_fld (pv 0) rfl) pa_nil)))))
      (pss_cons (ps_set (i := 4) sc_write_header.nd rfl (Or.inl rfl) (pe_meth0 (pv 3) T.cl_BitWriter T.me_BitWriter_byte_list (ok_BitWriter_byte_list T) (hr.mono (by decide)) T.b_BitWriter_byte_list .nil pass0))
      (pss_one (ps_ret (pe_op op_cat (pv 4) (pe_lst (pa_cons (pe_call (ok_crc8 T) (hr.mono (by decide)) (by rfl) T.g_crc8 T.F_crc8.kp T.b1_crc8 T.v1_crc8 pass0 (pa_cons (pv 4) pa_nil)) pa_nil)))))))))))))))))))), ?_⟩
  have fbz : ∀ {σ : L2.St} {H1 : Hp}, Ex H H1 → σ[0]? = some (some (.ref p)) → Ev (tFld K (tVar 0) "block_size") σ H1 (.int (h.bz : Int)) := fun e z => ev_fld T.cl_FrameHeader T.n_FrameHeader_block_size (ev_var z) (e _ _ hp) rfl
  have frt : ∀ {σ : L2.St} {H1 : Hp}, Ex H H1 → σ[0]? = some (some (.ref p)) → Ev (tFld K (tVar 0) "rate") σ H1 (.int (h.rt : Int)) := fun e z => ev_fld T.cl_FrameHeader T.n_FrameHeader_rate (ev_var z) (e _ _ hp) rfl
  have fvr : ∀ {σ : L2.St} {H1 : Hp}, Ex H H1 → σ[0]? = some (some (.ref p)) → Ev (tFld K (tVar 0) "variable") σ H1 (.bl h.vr) := fun e z => ev_fld T.cl_FrameHeader T.n_FrameHeader_variable (ev_var z) (e _ _ hp) rfl
  have fdp : ∀ {σ : L2.St} {H1 : Hp}, Ex H H1 → σ[0]? = some (some (.ref p)) → Ev (tFld K (tVar 0) "depth") σ H1 (.int (h.dp : Int)) := fun e z => ev_fld T.cl_FrameHeader T.n_FrameHeader_depth (ev_var z) (e _ _ hp) rfl
  have fnm : ∀ {σ : L2.St} {H1 : Hp}, Ex H H1 → σ[0]? = some (some (.ref p)) → Ev (tFld K (tVar 0) "number") σ H1 (.int (h.nm : Int)) := fun e z => ev_fld T.cl_FrameHeader T.n_FrameHeader_number (ev_var z) (e _ _ hp) rfl
  refine q_asg (v := .int ((szC h.bz : Nat) : Int)) (ev_call (ea_cons (fbz (Ex.refl _) rfl) ea_nil) fun G e Q q _ => ⟨h.bz, rfl, q⟩) fun H1 e1 => ?_
  refine q_asg (v := .int ((rtC h.rt : Nat) : Int)) (ev_call (ea_cons (frt e1 rfl) ea_nil) fun G e Q q _ => ⟨h.rt, rfl, q⟩) fun H2 e2 => ?_
  refine q_mkw (C := T.C_BitWriter) fun a L H3 ha hL e3 hW3 => ?_
  have ha0 := fresh_back (e1.trans e2) ha
  have hL0 := fresh_back (e1.trans e2) hL
  have e13 := e1.trans (e2.trans e3)
  have h1 := szC_lt h.bz
  have h2 := rtC_lt h.rt
  have h3 := dpC_lt h.dp
  have h4 := ok.cc
  have h5 : h.vr.toNat < 2 := by cases h.vr <;> decide
  refine q_wr (w := 14) (v := 16382) (ev_var rfl) hW3 rfl ev_c (by decide) (by decide) (by show 0 ≤ _; decide) fun H4 F4 hW4 => ?_
  refine q_wr (w := 1) (v := 0) (ev_var rfl) hW4 rfl ev_c (by decide) (by decide) (by rw [List.length_append, bitsN_len]; decide) fun H5 F5 hW5 => ?_
  have F45 := F4.trans F5
  have x5 := ex_fr e13 ha0 hL0 F45
  refine q_wr (w := 1) (v := h.vr.toNat) (ev_var rfl) hW5 rfl (Ev.is (ev_intB (fvr x5 rfl)) (congrArg V.int (by cases h.vr <;> rfl))) h5 (by decide) (by simp only [List.length_append, bitsN_len]; decide) fun H6 F6 hW6 => ?_
  refine q_wr (w := 4) (v := szC h.bz) (ev_var rfl) hW6 rfl (ev_var rfl) h1 (by decide) (by simp only [List.length_append, bitsN_len]; decide) fun H7 F7 hW7 => ?_
  refine q_wr (w := 4) (v := rtC h.rt) (ev_var rfl) hW7 rfl (ev_var rfl) h2 (by decide) (by simp only [List.length_append, bitsN_len]; decide) fun H8 F8 hW8 => ?_
  have F48 := F45.trans (F6.trans (F7.trans F8))
  have x8 := ex_fr e13 ha0 hL0 F48
  refine q_wr (w := 4) (v := h.cc) (ev_var rfl) hW8 rfl (ev_call (ea_cons (ev_var rfl) ea_nil) fun G e Q q _ => ⟨p, h, rfl, hA.mono (x8.trans e), ok, q⟩) (by omega) (by decide) (by simp only [List.length_append, bitsN_len]; decide) fun H9 F9 hW9 => ?_
  have F49 := F48.trans F9
  have x9 := ex_fr e13 ha0 hL0 F49
  refine q_wr (w := 3) (v := dpC h.dp) (ev_var rfl) hW9 rfl (ev_call (ea_cons (fdp x9 rfl) ea_nil) fun G e Q q _ => ⟨h.dp, rfl, q⟩) h3 (by decide) (by simp only [List.length_append, bitsN_len]; decide) fun H10 F10 hW10 => ?_
  refine q_wr (w := 1) (v := 0) (ev_var rfl) hW10 rfl ev_c (by decide) (by decide) (by simp only [List.length_append, bitsN_len]; decide) fun H11 F11 hW11 => ?_
  rw [hd4 h5 h2 h3] at hW11
  have hW11 : WrAt T.C_BitWriter H11 a L ((hd4B h).flatMap bits8) := hW11
  have F411 := F49.trans (F10.trans F11)
  have x11 := ex_fr e13 ha0 hL0 F411
  clear hW3 hW4 hW5 hW6 hW7 hW8 hW9 hW10 F4 F5 F6 F7 F8 F9 F10 F11 F45 F48 F49 x5 x8 x9
  obtain ⟨dx11, ws11, hd11, nn11, ha11, hL11, _⟩ := hW11.len
  refine q_dropML (ev_var rfl) ha11 rfl (el_form ok.n1 (fnm x11 rfl)) fun b H12 hb e12 gb => ⟨a, L, b, _, form h.nm, rfl, hW11.ex e12, gb, (by rintro rfl; rw [hL11] at hb; cases hb), form_lt ok.n1, (by rw [bits_flat_len, form_len]; have := sz_le h.nm; show 8 * 4 + _ ≤ _; omega), fun H13 F13 hW13 => ?_⟩
  rw [← List.flatMap_append] at hW13
  have F413 := F411.trans ((Fr.ex e12).trans F13)
  have x13 := ex_fr e13 ha0 hL0 F413
  have hl13 : ((hd4B h ++ form h.nm).flatMap bits8).length ≤ 1000 := by rw [bits_flat_len, List.length_append, form_len]; have := sz_le h.nm; show 8 * (4 + _) ≤ _; omega
  refine q_dropC (vs := [.ref a, .int ((szC h.bz : Nat) : Int), .int (h.bz : Int)]) (ea_cons (ev_var rfl) (ea_cons (ev_var rfl) (ea_cons (fbz x13 rfl) ea_nil))) fun H14 e14 => ⟨a, L, _, h.bz, rfl, hW13.ex e14, ok.b1, ok.b2, by omega, fun H15 F15 hW15 => ?_⟩
  rw [← List.flatMap_append] at hW15
  have F415 := F413.trans ((Fr.ex e14).trans F15)
  have x15 := ex_fr e13 ha0 hL0 F415
  have hl15 : ((hd4B h ++ form h.nm ++ szB h.bz).flatMap bits8).length ≤ 1100 := by rw [bits_flat_len, List.length_append, List.length_append, form_len]; have := sz_le h.nm; have := szB_len h.bz; show 8 * (4 + _ + _) ≤ _; omega
  refine q_dropC (vs := [.ref a, .int ((rtC h.rt : Nat) : Int), .int (h.rt : Int)]) (ea_cons (ev_var rfl) (ea_cons (ev_var rfl) (ea_cons (frt x15 rfl) ea_nil))) fun H16 e16 => ⟨a, L, _, h.rt, rfl, hW15.ex e16, by omega, fun H17 F17 hW17 => ?_⟩
  rw [← List.flatMap_append] at hW17
  have F417 := F415.trans ((Fr.ex e16).trans F17)
  have x17 := ex_fr e13 ha0 hL0 F417
  have hB : hd4B h ++ form h.nm ++ szB h.bz ++ rtB h.rt = hdB h := by unfold hdB; simp only [List.append_assoc]
  rw [hB] at hW17
  have hlB := hdB_len h
  have hpad : padN ((hdB h).flatMap bits8).length = 0 := by rw [bits_flat_len]; unfold padN; omega
  refine q_asgL (er_list (ms := (hdB h).flatMap bits8) (us := hdB h) (ev_var rfl) hW17 (by rw [bits_flat_len]; omega) (by rw [hpad, List.replicate_zero, List.append_nil]) (hdB_lt ok)) fun q H18 hq e18 gq => ?_
  refine s_retL (xs := (cs (hdA h)).map V.int) (EvL.is (el_cat (xs := (cs (hdB h)).map V.int) (ys := [.int ((crcN 8 T8 0 (hdB h) : Nat) : Int)]) (Ev.r (ev_var rfl) gq) (EvL.r (el_lst (ea_cons (ev_crc0 (w := 8) (ev_var rfl) (sq_of gq) (hdB_lt ok)) ea_nil) (Nat.le_of_ble_eq_true rfl))) (by rw [List.length_map, cs_len]; show _ + 1 ≤ _; omega)) (by unfold hdA; rw [cs_append, List.map_append]; rfl)) fun r H19 hr2 e19 gr => k r H19 (fresh_back (x17.trans e18) hr2) (x17.trans (e18.trans e19)) gr
def sp_hbytes (CH : Addr) : Sp := fun vs H Q _ => ∃ (p : Addr) (h : Hd), vs = [.ref p] ∧ HAt CH H p h ∧ okHd h ∧ RetV (.int ((hdA h).length : Int)) H Q
theorem ok_header_bytes (T : TX K mg) : FnOk P w K mg base CX0 4 T.a_header_bytes T.d_header_bytes ["header"] (sp_hbytes T.C_FrameHeader) := by
  refine T.F_header_bytes.ok sc_header_bytes (fun vs H Q E h => by obtain ⟨p, h, rfl, _⟩ := h; rfl) (fun cdv A outer s0 H vs Q E hr h => ?_)
  obtain ⟨p, h, rfl, hA, ok, k⟩ := h
  refine ⟨_, (pss_one (ps_ret (pe_callB (r := rLenS K) call_len_seq (by rfl) T.m_len PySem.boot_len (pa_cons (pe_call (ok_write_header T) (hr.mono (by decide)) (by rfl) T.g_write_header T.F_write_header.kp T.b_write_header .nil pass0 (pa_cons (pv 0) pa_nil)) pa_nil)))), ?_⟩
  exact s_ret (Ev.is (ev_lenS (EvR.s (EvL.r (el_call (xs := (cs (hdA h)).map V.int) (ea_cons (ev_var rfl) ea_nil) fun G e Q q _ => ⟨p, h, rfl, hA.mono e, ok, q⟩)))) (by rw [List.length_map, cs_len])) fun H1 e1 => k H1 e1
/-! ### two headers compared -/
def sp_heq (K : PySem.W.Frag) (C : Addr) : Sp := fun vs H Q _ => ∃ (a b : Addr) (h : Hd), vs = [.ref a, .ref b] ∧ HAt C H a h ∧ HAt C H b h ∧ RetV (.bl true) H Q
theorem ok_FrameHeader_eq (T : TX K mg) : FnOk P w K mg base CX0 1 T.a_FrameHeader_eq T.d_FrameHeader_eq ["self", "other"] (sp_heq K T.C_FrameHeader) := by
  refine T.F_FrameHeader_eq.ok sc_FrameHeader_eq (fun vs H Q E h => by obtain ⟨a, b, h, rfl, _⟩ := h; rfl) (fun cdv A outer s0 H vs Q E hr h => ?_)
  obtain ⟨a, b, h, rfl, ⟨dx, ha⟩, ⟨dy, hb⟩, k⟩ := h
  refine ⟨_, (pss_one (ps_ret (pe_and (pe_callB (r := rIsi K) call_isi (by rfl) T.m_isinstance PyProof.Rows.boot_isinstance (pa_cons (pv 1) (pa_cons (pe_glob (v := V.ref T.C_FrameHeader) (by rfl) T.g_FrameHeader rfl) pa_nil))) (pe_and (pe_cmpR op_eq (pe_fld (pv 0) rfl) (pe_fld (pv 1) rfl) (nomark _)) (pe_and (pe_cmpR op_eq (pe_fld (pv 0) rfl) (pe_fld (pv 1) rfl) (nomark _)) (pe_and (pe_cmpR op_eq (pe_fld (pv 0) rfl) (pe_fld (pv 1) rfl) (nomark _)) (pe_and (pe_cmpR op_eq (pe_fld (pv 0) rfl) (pe_fld (pv 1) rfl) (nomark _)) (pe_and (pe_cmpR op_eq (pe_fld (pv 0) rfl) (pe_fld (pv 1) rfl) (nomark _)) (pe_and (pe_cmpR op_eq (pe_fld (pv 0) rfl) (pe_fld (pv 1) rfl) (nomark _)) (pe_one (pe_cmpR op_eq (pe_fld (pv 0) rfl) (pe_fld (pv 1) rfl) (nomark _)))))))))))), ?_⟩
  have eqs : ∀ {f : Str} {v : V}, NoAttr K T.C_FrameHeader f → (fsH (.bl h.vr) (.int (h.bz : Int)) (.int (h.rt : Int)) (.int (h.ch : Int)) (.str h.wy) (.int (h.dp : Int)) (.int (h.nm : Int))).lookup f = some v → scal v v = true → Ev (tOp rEq (tFld K (tVar 0) f) (tFld K (tVar 1) f)) [some (.ref a), some (.ref b)] H (.bl true) := fun n l s => Ev.is (ev_eq (ev_fld T.cl_FrameHeader n (ev_var rfl) ha l) (ev_fld T.cl_FrameHeader n (ev_var rfl) hb l) s) (by rw [decide_eq_true rfl])
  exact s_ret (v := .bl true) (Ev.is (ev_andV (a := true) (b := true) (ev_isiO (C := T.C_FrameHeader) (t := .ref T.C_FrameHeader) (ev_var rfl) (T.ty_FrameHeader.ins T.cl_FrameHeader hb) T.ki_FrameHeader_FrameHeader) fun _ => Ev.is (ev_andV (a := true) (b := true) (eqs T.n_FrameHeader_variable rfl rfl) fun _ => Ev.is (ev_andV (a := true) (b := true) (eqs T.n_FrameHeader_block_size rfl rfl) fun _ => Ev.is (ev_andV (a := true) (b := true) (eqs T.n_FrameHeader_rate rfl rfl) fun _ => Ev.is (ev_andV (a := true) (b := true) (eqs T.n_FrameHeader_channels rfl rfl) fun _ => Ev.is (ev_andV (a := true) (b := true) (eqs T.n_FrameHeader_assignment rfl rfl) fun _ => Ev.is (ev_andV (a := true) (b := true) (eqs T.n_FrameHeader_depth rfl rfl) fun _ => eqs T.n_FrameHeader_number rfl rfl) rfl) rfl) rfl) rfl) rfl) rfl) rfl) fun H1 e1 => k H1 e1

theorem ev_callL1 {σ : L2.St} {H : Hp} {te : TE} {sp : Sp} {dvs xs : List V} {E : XK} {z : V} (h : EvL te σ H xs) (k : ∀ p H1, Ex H H1 → H1 p = some (.lst xs) → ∀ (Q : VK) (E : XK), (∀ H2, Ex H1 H2 → Q z H2) → sp ([.ref p] ++ dvs) H1 Q E) : Ev (tCall sp dvs E (tCons te tNil)) σ H z := fun H1 e Q q =>
  h H1 e _ fun p H2 hp e2 g => k p H2 (e.trans e2) g _ _ fun H3 e3 => q H3 (e2.trans e3)
theorem ev_callL2 {σ : L2.St} {H : Hp} {t1 t2 : TE} {sp : Sp} {dvs xs : List V} {E : XK} {y z : V} (h1 : EvL t1 σ H xs) (h2 : Ev t2 σ H y) (k : ∀ p H1, Ex H H1 → H1 p = some (.lst xs) → ∀ (Q : VK) (E : XK), (∀ H2, Ex H1 H2 → Q z H2) → sp ([.ref p, y] ++ dvs) H1 Q E) : Ev (tCall sp dvs E (tCons t1 (tCons t2 tNil))) σ H z := fun H1 e Q q =>
  h1 H1 e _ fun p H2 hp e2 g => h2 H2 (e.trans e2) _ fun H3 e3 => k p H3 (e.trans (e2.trans e3)) (e3 _ _ g) _ _ fun H4 e4 => q H4 (e2.trans (e3.trans e4))

/-! ### bytes in their place -/
def BAt (ds : List Nat) (i : Nat) (l : List Nat) : Prop := ∃ pre post, ds = pre ++ (l ++ post) ∧ pre.length = i
theorem BAt.has {ds l : List Nat} {i : Nat} (h : BAt ds i l) : Has (ds.flatMap bits8) (8 * i) (l.flatMap bits8) := by
  obtain ⟨pre, post, e, rfl⟩ := h
  exact ⟨pre.flatMap bits8, post.flatMap bits8, by rw [e, List.flatMap_append, List.flatMap_append], bits_flat_len pre⟩
theorem BAt.l {ds x y : List Nat} {i : Nat} (h : BAt ds i (x ++ y)) : BAt ds i x := by
  obtain ⟨pre, post, e, h⟩ := h
  exact ⟨pre, y ++ post, by rw [e, List.append_assoc], h⟩
theorem BAt.r {ds x y : List Nat} {i : Nat} (h : BAt ds i (x ++ y)) : BAt ds (i + x.length) y := by
  obtain ⟨pre, post, e, rfl⟩ := h
  exact ⟨pre ++ x, post, by rw [e]; simp only [List.append_assoc], by rw [List.length_append]⟩
theorem BAt.get {ds l : List Nat} {i j x : Nat} (h : BAt ds i l) (hj : l[j]? = some x) : ds[i + j]? = some x := by
  obtain ⟨pre, post, e, rfl⟩ := h
  have hl := (List.getElem?_eq_some_iff.mp hj).1
  rw [e, List.getElem?_append_right (by omega), Nat.add_sub_cancel_left, List.getElem?_append_left hl, hj]
theorem BAt.cut {ds l : List Nat} {i : Nat} (h : BAt ds i l) : (ds.drop i).take l.length = l := by
  obtain ⟨pre, post, e, rfl⟩ := h
  rw [e, List.drop_left, List.take_left]
theorem FrA.back {a : Addr} {H H1 : Hp} (hF : FrA a H H1) {q : Addr} (hq : H1 q = none) (ha : ∃ o, H1 a = some o) : H q = none := by
  cases h : H q with
  | none => rfl
  | some o =>
    obtain ⟨oa, ha⟩ := ha
    by_cases e : q = a
    · rw [e, ha] at hq; cases hq
    · rw [hF q o e h] at hq; cases hq
/-! ### a field read -/
section
variable {C a d : Addr} {ds : List Nat} {pos w v : Nat} {wi : Int} {σ : L2.St} {H : Hp} {to tb : TE} {E : XK} {D : Ends} {tu tv tz : TS} {r : R2} {g : TG}
theorem rdv {Q : VK} (h : Ev to σ H (.ref a)) (hR : RdD C H a d ds pos) (hwi : wi = (w : Int)) (hB : Has (ds.flatMap bits8) pos (bitsN w v)) (hv : v < 2 ^ w) (hw : w ≤ 64) (k : ∀ H1, FrA a H H1 → RdD C H1 a d ds (pos + w) → Q (.int (v : Int)) H1) : tMeth C "read" (sp_read C) [] E to (tCons (tC (.int wi)) tNil) σ H Q := by
  obtain ⟨dx, ha⟩ := id hR.1
  have hl := hB.len
  rw [bitsN_len, bits_flat_len] at hl
  refine mth (vs := [.int (w : Int)]) h ha rfl (ea_cons (Ev.is ev_c (congrArg V.int hwi)) ea_nil) fun H1 e1 => ⟨a, d, ds, pos, w, rfl, (hR.ex e1).1, (hR.ex e1).2.1, hR.2.2.1, hw, hl, hR.2.2.2, fun H2 hF hR2 => ?_⟩
  rw [hB.val hv]
  exact k H2 ((FrA.ex e1).trans hF) (hR.to ((FrA.ex e1).trans hF) hR2)
theorem q_asgRv {i : Nat} (h : Ev to σ H (.ref a)) (hR : RdD C H a d ds pos) (hwi : wi = (w : Int)) (hB : Has (ds.flatMap bits8) pos (bitsN w v)) (hv : v < 2 ^ w) (hw : w ≤ 64) (k : ∀ H1, FrA a H H1 → RdD C H1 a d ds (pos + w) → tz D (σ.set i (some (.int (v : Int)))) H1) : tSeq (tAsg (tMeth C "read" (sp_read C) [] E to (tCons (tC (.int wi)) tNil)) (gName i)) tz D σ H := rdv h hR hwi hB hv hw k
theorem q_asgRo (h : Ev to σ H (.ref a)) (hR : RdD C H a d ds pos) (hwi : wi = (w : Int)) (hB : Has (ds.flatMap bits8) pos (bitsN w v)) (hv : v < 2 ^ w) (hw : w ≤ 64) (k : ∀ H1, FrA a H H1 → RdD C H1 a d ds (pos + w) → tSeq (tAsg (tOp r (tC (.int (v : Int))) tb) g) tz D σ H1) : tSeq (tAsg (tOp r (tMeth C "read" (sp_read C) [] E to (tCons (tC (.int wi)) tNil)) tb) g) tz D σ H := rdv h hR hwi hB hv hw k
theorem q_whenRv (h : Ev to σ H (.ref a)) (hR : RdD C H a d ds pos) (hwi : wi = (w : Int)) (hB : Has (ds.flatMap bits8) pos (bitsN w v)) (hv : v < 2 ^ w) (hw : w ≤ 64) (k : ∀ H1, FrA a H H1 → RdD C H1 a d ds (pos + w) → tSeq (tIfS (tTest (tOp r (tC (.int (v : Int))) tb)) tu tv) tz D σ H1) : tSeq (tIfS (tTest (tOp r (tMeth C "read" (sp_read C) [] E to (tCons (tC (.int wi)) tNil)) tb)) tu tv) tz D σ H := rdv h hR hwi hB hv hw k
theorem s_whenRv (h : Ev to σ H (.ref a)) (hR : RdD C H a d ds pos) (hwi : wi = (w : Int)) (hB : Has (ds.flatMap bits8) pos (bitsN w v)) (hv : v < 2 ^ w) (hw : w ≤ 64) (k : ∀ H1, FrA a H H1 → RdD C H1 a d ds (pos + w) → tIfS (tTest (tOp r (tC (.int (v : Int))) tb)) tu tv D σ H1) : tIfS (tTest (tOp r (tMeth C "read" (sp_read C) [] E to (tCons (tC (.int wi)) tNil)) tb)) tu tv D σ H := rdv h hR hwi hB hv hw k
theorem s_retRo (h : Ev to σ H (.ref a)) (hR : RdD C H a d ds pos) (hwi : wi = (w : Int)) (hB : Has (ds.flatMap bits8) pos (bitsN w v)) (hv : v < 2 ^ w) (hw : w ≤ 64) (k : ∀ H1, FrA a H H1 → RdD C H1 a d ds (pos + w) → tRet (tOp r (tC (.int (v : Int))) tb) D σ H1) : tRet (tOp r (tMeth C "read" (sp_read C) [] E to (tCons (tC (.int wi)) tNil)) tb) D σ H := rdv h hR hwi hB hv hw k
theorem s_retRv (h : Ev to σ H (.ref a)) (hR : RdD C H a d ds pos) (hwi : wi = (w : Int)) (hB : Has (ds.flatMap bits8) pos (bitsN w v)) (hv : v < 2 ^ w) (hw : w ≤ 64) (k : ∀ H1, FrA a H H1 → RdD C H1 a d ds (pos + w) → D.rt (.int (v : Int)) H1) : tRet (tMeth C "read" (sp_read C) [] E to (tCons (tC (.int wi)) tNil)) D σ H := rdv h hR hwi hB hv hw k
end
/-! ### a header read -/
def sp_rsync (C : Addr) : Sp := fun vs H Q _ => ∃ (a d : Addr) (ds : List Nat) (pos : Nat), vs = [.ref a] ∧ RdD C H a d ds pos ∧ Has (ds.flatMap bits8) pos (bitsN 14 16382 ++ bitsN 1 0) ∧ ∀ H', FrA a H H' → RdD C H' a d ds (pos + 15) → Q .non H'
theorem ok_read_sync (T : TX K mg) : FnOk P w K mg base CX0 2 T.a_read_sync T.d_read_sync ["reader"] (sp_rsync T.C_BitReader) := by
  refine T.F_read_sync.ok sc_read_sync (fun vs H Q E h => by obtain ⟨a, d, ds, pos, rfl, _⟩ := h; rfl) (fun cdv A outer s H vs Q E hr h => ?_)
  obtain ⟨a, d, ds, pos, rfl, hR, hB, k⟩ := h
  refine ⟨_, (pss_cons (ps_set (i := 1) sc_read_sync.nd rfl (Or.inl rfl) (pe_meth0 (pv 0) T.cl_BitReader T.me_BitReader_byte_place (ok_BitReader_byte_place T) (hr.mono (by decide)) T.b_BitReader_byte_place .nil pass0))
      (pss_cons (ps_if (pt_cmpR op_ne (pe_meth (pv 0) T.cl_BitReader T.me_BitReader_read (ok_BitReader_read T) (hr.mono (by decide)) T.b_BitReader_read .nil pass0 (pa_cons pe_int pa_nil)) (pe_glob (by rfl) T.c_SYNC_CODE T.r_SYNC_CODE) (nomark _)) (pss_one ps_never) pss_nil)
      (pss_cons (ps_set (i := 1) sc_read_sync.nd rfl (Or.inl rfl) (pe_meth0 (pv 0) T.cl_BitReader T.me_BitReader_byte_place (ok_BitReader_byte_place T) (hr.mono (by decide)) T.b_BitReader_byte_place .nil pass0))
      (pss_one (ps_if (pt_cmpR op_eq (pe_meth (pv 0) T.cl_BitReader T.me_BitReader_read (ok_BitReader_read T) (hr.mono (by decide)) T.b_BitReader_read .nil pass0 (pa_cons pe_int pa_nil)) pe_int (nomark _)) (pss_one ps_never) pss_nil))))), ?_⟩
  have hB2 := hB.r
  rw [bitsN_len] at hB2
  refine q_asg (ev_place (f := fun pos => (pos / 8 : Nat)) (ev_var rfl) hR.1 rfl) fun H1 e1 => ?_
  refine q_whenRv (w := 14) (v := 16382) (ev_var rfl) (hR.ex e1) rfl hB.l (by decide) (by decide) fun H2 F2 hR2 => ?_
  refine q_when (b := false) (et_is (et_test (ev_ne ev_c ev_c rfl)) (by decide +kernel)) (fun hb => by cases hb) fun _ H3 e3 => ?_
  refine q_asg (ev_place (f := fun pos => (pos / 8 : Nat)) (ev_var rfl) (hR2.ex e3).1 rfl) fun H4 e4 => ?_
  refine s_whenRv (w := 1) (v := 0) (ev_var rfl) (hR2.ex (e3.trans e4)) rfl hB2 (by decide) (by decide) fun H5 F5 hR5 => ?_
  exact s_when (b := false) (et_is (et_test (ev_eq ev_c ev_c rfl)) (by decide +kernel)) (fun hb => by cases hb) fun _ H6 e6 => k H6 ((((FrA.ex e1).trans F2).trans (FrA.ex (e3.trans e4))).trans (F5.trans (FrA.ex e6))) (hR5.ex e6)
def sp_r4 (C : Addr) (x : Nat) : Sp := fun vs H Q _ => ∃ (a d : Addr) (ds : List Nat) (pos c : Nat), vs = [.ref a] ∧ RdD C H a d ds pos ∧ c < 16 ∧ c ≠ x ∧ Has (ds.flatMap bits8) pos (bitsN 4 c) ∧ ∀ H', FrA a H H' → RdD C H' a d ds (pos + 4) → Q (.int (c : Int)) H'
theorem ok_read_size_code (T : TX K mg) : FnOk P w K mg base CX0 2 T.a_read_size_code T.d_read_size_code ["reader"] (sp_r4 T.C_BitReader 0) := by
  refine T.F_read_size_code.ok sc_read_size_code (fun vs H Q E h => by obtain ⟨a, d, ds, pos, c, rfl, _⟩ := h; rfl) (fun cdv A outer s H vs Q E hr h => ?_)
  obtain ⟨a, d, ds, pos, c, rfl, hR, hc, hx, hB, k⟩ := h
  refine ⟨_, (pss_cons (ps_set (i := 1) sc_read_size_code.nd rfl (Or.inl rfl) (pe_meth0 (pv 0) T.cl_BitReader T.me_BitReader_byte_place (ok_BitReader_byte_place T) (hr.mono (by decide)) T.b_BitReader_byte_place .nil pass0))
      (pss_cons (ps_set (i := 2) sc_read_size_code.nd rfl (Or.inl rfl) (pe_meth (pv 0) T.cl_BitReader T.me_BitReader_read (ok_BitReader_read T) (hr.mono (by decide)) T.b_BitReader_read .nil pass0 (pa_cons pe_int pa_nil)))
      (pss_cons (ps_if (pt_cmpR op_eq (pv 2) pe_int (nomark _)) (pss_one ps_never) pss_nil)
      (pss_one (ps_ret (pv 2)))))), ?_⟩
  refine q_asg (ev_place (f := fun pos => (pos / 8 : Nat)) (ev_var rfl) hR.1 rfl) fun H1 e1 => ?_
  refine q_asgRv (w := 4) (v := c) (ev_var rfl) (hR.ex e1) rfl hB hc (by decide) fun H2 F2 hR2 => ?_
  refine q_when (b := false) (et_is (et_test (ev_eq (ev_var rfl) ev_c rfl)) (decide_eq_false fun z => by have := V.int.inj z; omega)) (fun hb => by cases hb) fun _ H3 e3 => ?_
  exact s_ret (ev_var rfl) fun H4 e4 => k H4 (((FrA.ex e1).trans F2).trans (FrA.ex (e3.trans e4))) (hR2.ex (e3.trans e4))
theorem ok_read_rate_code (T : TX K mg) : FnOk P w K mg base CX0 2 T.a_read_rate_code T.d_read_rate_code ["reader"] (sp_r4 T.C_BitReader 15) := by
  refine T.F_read_rate_code.ok sc_read_rate_code (fun vs H Q E h => by obtain ⟨a, d, ds, pos, c, rfl, _⟩ := h; rfl) (fun cdv A outer s H vs Q E hr h => ?_)
  obtain ⟨a, d, ds, pos, c, rfl, hR, hc, hx, hB, k⟩ := h
  refine ⟨_, (pss_cons (ps_set (i := 1) sc_read_rate_code.nd rfl (Or.inl rfl) (pe_meth0 (pv 0) T.cl_BitReader T.me_BitReader_byte_place (ok_BitReader_byte_place T) (hr.mono (by decide)) T.b_BitReader_byte_place .nil pass0))
      (pss_cons (ps_set (i := 2) sc_read_rate_code.nd rfl (Or.inl rfl) (pe_meth (pv 0) T.cl_BitReader T.me_BitReader_read (ok_BitReader_read T) (hr.mono (by decide)) T.b_BitReader_read .nil pass0 (pa_cons pe_int pa_nil)))
      (pss_cons (ps_if (pt_cmpR op_eq (pv 2) pe_int (nomark _)) (pss_one ps_never) pss_nil)
      (pss_one (ps_ret (pv 2)))))), ?_⟩
  refine q_asg (ev_place (f := fun pos => (pos / 8 : Nat)) (ev_var rfl) hR.1 rfl) fun H1 e1 => ?_
  refine q_asgRv (w := 4) (v := c) (ev_var rfl) (hR.ex e1) rfl hB hc (by decide) fun H2 F2 hR2 => ?_
  refine q_when (b := false) (et_is (et_test (ev_eq (ev_var rfl) ev_c rfl)) (decide_eq_false fun z => by have := V.int.inj z; omega)) (fun hb => by cases hb) fun _ H3 e3 => ?_
  exact s_ret (ev_var rfl) fun H4 e4 => k H4 (((FrA.ex e1).trans F2).trans (FrA.ex (e3.trans e4))) (hR2.ex (e3.trans e4))
def sp_rchan (C : Addr) : Sp := fun vs H Q _ => ∃ (a d : Addr) (ds : List Nat) (pos : Nat) (h : Hd), vs = [.ref a] ∧ RdD C H a d ds pos ∧ okHd h ∧ Has (ds.flatMap bits8) pos (bitsN 4 h.cc) ∧ ∀ t H', FrA a H H' → H' t = some (.tup [.int (h.ch : Int), .str h.wy]) → RdD C H' a d ds (pos + 4) → Q (.ref t) H'
theorem ok_read_channels (T : TX K mg) : FnOk P w K mg base CX0 2 T.a_read_channels T.d_read_channels ["reader"] (sp_rchan T.C_BitReader) := by
  refine T.F_read_channels.ok sc_read_channels (fun vs H Q E h => by obtain ⟨a, d, ds, pos, c, rfl, _⟩ := h; rfl) (fun cdv A outer s H vs Q E hr h => ?_)
  obtain ⟨a, d, ds, pos, h, rfl, hR, ok, hB, k⟩ := h
  refine ⟨_, (pss_cons (ps_set (i := 1) sc_read_channels.nd rfl (Or.inl rfl) (pe_meth0 (pv 0) T.cl_BitReader T.me_BitReader_byte_place (ok_BitReader_byte_place T) (hr.mono (by decide)) T.b_BitReader_byte_place .nil pass0))
      (pss_cons (ps_set (i := 2) sc_read_channels.nd rfl (Or.inl rfl) (pe_meth (pv 0) T.cl_BitReader T.me_BitReader_read (ok_BitReader_read T) (hr.mono (by decide)) T.b_BitReader_read .nil pass0 (pa_cons pe_int pa_nil)))
      (pss_cons (ps_if (pt_cmpR op_lt (pv 2) pe_int (nomark _)) (pss_one (ps_ret (pe_tup (pa_cons (pe_op op_add (pv 2) pe_int) (pa_cons pe_str pa_nil))))) pss_nil)
      (pss_cons (ps_if (pt_cmpR op_gt (pv 2) pe_int (nomark _)) (pss_one ps_never) pss_nil)
      (pss_one (ps_ret (pe_tup (pa_cons pe_int (pa_cons (pe_ix (r := rIxT K) ix_tup (pe_glob (v := V.ref T.A_STEREO) (by rfl) T.c_STEREO rfl) (pe_op op_sub (pv 2) pe_int) (fun _ _ => rfl)) pa_nil))))))))), ?_⟩
  have h10 := ok.cc
  refine q_asg (ev_place (f := fun pos => (pos / 8 : Nat)) (ev_var rfl) hR.1 rfl) fun H1 e1 => ?_
  refine q_asgRv (w := 4) (v := h.cc) (ev_var rfl) (hR.ex e1) rfl hB (by omega) (by decide) fun H2 F2 hR2 => ?_
  have F02 := (FrA.ex e1).trans F2
  rcases ok.c1 with ⟨c1, c2, c3⟩ | ⟨i, hi, c1, c2, c3⟩
  · refine q_when (b := true) (et_is (et_test (ev_I0 (g := fun i j => .bl (decide (i < j))) (ev_var rfl) ev_c)) (decide_eq_true (by omega))) (fun _ H3 e3 => ?_) (fun hb => by cases hb)
    refine s_retU (xs := [.int (h.ch : Int), .str h.wy]) (eu_tup (ea_cons (Ev.is (ev_I0 (g := fun i j => .int (i + j)) (ev_var rfl) ev_c) (congrArg V.int (by omega))) (ea_cons (Ev.is ev_c (by rw [c2])) ea_nil)) (Nat.le_of_ble_eq_true rfl)) fun t H4 ht e4 g4 => k t H4 (F02.trans (FrA.ex (e3.trans e4))) g4 (hR2.ex (e3.trans e4))
  · refine q_when (b := false) (et_is (et_test (ev_I0 (g := fun i j => .bl (decide (i < j))) (ev_var rfl) ev_c)) (decide_eq_false (by omega))) (fun hb => by cases hb) fun _ H3 e3 => ?_
    refine q_when (b := false) (et_is (et_test (ev_I0 (g := fun i j => .bl (decide (j < i))) (ev_var rfl) ev_c)) (decide_eq_false (by omega))) (fun hb => by cases hb) fun _ H4 e4 => ?_
    have hat : (stT.map V.str)[i]? = some (.str h.wy) := by rw [List.getElem?_map, c3]; rfl
    refine s_retU (xs := [.int (h.ch : Int), .str h.wy]) (eu_tup (ea_cons (Ev.is ev_c (congrArg V.int (by omega))) (ea_cons (ev_atT (n := (i : Int)) ev_c (T.s_STEREO _) (Ev.is (ev_I0 (g := fun i j => .int (i - j)) (ev_var rfl) ev_c) (congrArg V.int (by omega))) (at_of (j := i) rfl hat)) ea_nil)) (Nat.le_of_ble_eq_true rfl)) fun t H5 ht e5 g5 => k t H5 (F02.trans (FrA.ex (e3.trans (e4.trans e5)))) g5 (hR2.ex (e3.trans (e4.trans e5)))
theorem tabO_at {Tb : List Nat} {v : Nat} (h0 : 0 < v) (hm : v ∈ Tb) : (oV Tb)[Tb.idxOf v]? = some (.int (v : Int)) := by
  unfold oV
  rw [List.getElem?_map, (idx_of hm).1]
  show some (if v = 0 then V.non else .int (v : Int)) = _
  rw [if_neg (by omega)]
theorem idx_ne {Tb : List Nat} {v j : Nat} (hm : v ∈ Tb) (h : Tb[j]? ≠ some v) : Tb.idxOf v ≠ j := fun e => h (e ▸ (idx_of hm).1)
def sp_rdep (C : Addr) : Sp := fun vs H Q _ => ∃ (a d : Addr) (ds : List Nat) (pos dp other : Nat), vs = [.ref a, .int (other : Int)] ∧ RdD C H a d ds pos ∧ (dpC dp = 0 → other = dp) ∧ Has (ds.flatMap bits8) pos (bitsN 3 (dpC dp)) ∧ ∀ H', FrA a H H' → RdD C H' a d ds (pos + 3) → Q (.int (dp : Int)) H'
theorem ok_read_depth (T : TX K mg) : FnOk P w K mg base CX0 2 T.a_read_depth T.d_read_depth ["reader", "depth"] (sp_rdep T.C_BitReader) := by
  refine T.F_read_depth.ok sc_read_depth (fun vs H Q E h => by obtain ⟨a, d, ds, pos, c, o, rfl, _⟩ := h; rfl) (fun cdv A outer s H vs Q E hr h => ?_)
  obtain ⟨a, d, ds, pos, dp, other, rfl, hR, ho, hB, k⟩ := h
  refine ⟨_, (pss_cons (ps_set (i := 2) sc_read_depth.nd rfl (Or.inl rfl) (pe_meth0 (pv 0) T.cl_BitReader T.me_BitReader_byte_place (ok_BitReader_byte_place T) (hr.mono (by decide)) T.b_BitReader_byte_place .nil pass0))
      (pss_cons (ps_set (i := 3) sc_read_depth.nd rfl (Or.inl rfl) (pe_meth (pv 0) T.cl_BitReader T.me_BitReader_read (ok_BitReader_read T) (hr.mono (by decide)) T.b_BitReader_read .nil pass0 (pa_cons pe_int pa_nil)))
      (pss_cons (ps_if (pt_cmpR op_eq (pv 3) pe_int (nomark _)) (pss_one ps_never) pss_nil)
      (pss_cons (ps_if (pt_cmpR op_eq (pv 3) pe_int (nomark _)) (pss_one (ps_ret (pv 1))) pss_nil)
      (pss_one (ps_ret (pe_ix (r := rIxT K) ix_tup (pe_glob (v := V.ref T.A_DEPTHS) (by rfl) T.c_DEPTHS rfl) (pv 3) (fun _ _ => rfl)))))))), ?_⟩
  refine q_asg (ev_place (f := fun pos => (pos / 8 : Nat)) (ev_var rfl) hR.1 rfl) fun H1 e1 => ?_
  refine q_asgRv (w := 3) (v := dpC dp) (ev_var rfl) (hR.ex e1) rfl hB (dpC_lt dp) (by decide) fun H2 F2 hR2 => ?_
  have F02 := (FrA.ex e1).trans F2
  have h3 : dpC dp ≠ 3 := by
    unfold dpC
    split
    · rename_i h
      exact idx_ne h.2 (by intro z; cases z; omega)
    · omega
  refine q_when (b := false) (et_is (et_test (ev_eq (ev_var rfl) ev_c rfl)) (decide_eq_false fun z => by have := V.int.inj z; omega)) (fun hb => by cases hb) fun _ H3 e3 => ?_
  by_cases h0 : dpC dp = 0
  · refine q_when (b := true) (et_is (et_test (ev_eq (ev_var rfl) ev_c rfl)) (decide_eq_true (by rw [h0]; rfl))) (fun _ H4 e4 => ?_) (fun hb => by cases hb)
    exact s_ret (Ev.is (ev_var rfl) (by rw [ho h0])) fun H5 e5 => k H5 (F02.trans (FrA.ex (e3.trans (e4.trans e5)))) (hR2.ex (e3.trans (e4.trans e5)))
  · refine q_when (b := false) (et_is (et_test (ev_eq (ev_var rfl) ev_c rfl)) (decide_eq_false fun z => by have := V.int.inj z; omega)) (fun hb => by cases hb) fun _ H4 e4 => ?_
    have hm : 0 < dp ∧ dp ∈ dpT := by
      by_cases hm : 0 < dp ∧ dp ∈ dpT
      · exact hm
      · exact absurd (by unfold dpC; rw [if_neg hm]) h0
    have hat : (oV dpT)[dpC dp]? = some (.int (dp : Int)) := by
      unfold dpC
      rw [if_pos hm]
      exact tabO_at hm.1 hm.2
    exact s_ret (ev_atT (n := ((dpC dp : Nat) : Int)) ev_c (s_dp T _) (ev_var rfl) (at_of (j := dpC dp) rfl hat)) fun H5 e5 => k H5 (F02.trans (FrA.ex (e3.trans (e4.trans e5)))) (hR2.ex (e3.trans (e4.trans e5)))
def sp_rzero (C : Addr) : Sp := fun vs H Q _ => ∃ (a d : Addr) (ds : List Nat) (pos : Nat), vs = [.ref a] ∧ RdD C H a d ds pos ∧ Has (ds.flatMap bits8) pos (bitsN 1 0) ∧ ∀ H', FrA a H H' → RdD C H' a d ds (pos + 1) → Q .non H'
theorem ok_read_zero_bit (T : TX K mg) : FnOk P w K mg base CX0 2 T.a_read_zero_bit T.d_read_zero_bit ["reader"] (sp_rzero T.C_BitReader) := by
  refine T.F_read_zero_bit.ok sc_read_zero_bit (fun vs H Q E h => by obtain ⟨a, d, ds, pos, rfl, _⟩ := h; rfl) (fun cdv A outer s H vs Q E hr h => ?_)
  obtain ⟨a, d, ds, pos, rfl, hR, hB, k⟩ := h
  refine ⟨_, (pss_cons (ps_set (i := 1) sc_read_zero_bit.nd rfl (Or.inl rfl) (pe_meth0 (pv 0) T.cl_BitReader T.me_BitReader_byte_place (ok_BitReader_byte_place T) (hr.mono (by decide)) T.b_BitReader_byte_place .nil pass0))
      (pss_one (ps_if (pt_cmpR op_eq (pe_meth (pv 0) T.cl_BitReader T.me_BitReader_read (ok_BitReader_read T) (hr.mono (by decide)) T.b_BitReader_read .nil pass0 (pa_cons pe_int pa_nil)) pe_int (nomark _)) (pss_one ps_never) pss_nil))), ?_⟩
  refine q_asg (ev_place (f := fun pos => (pos / 8 : Nat)) (ev_var rfl) hR.1 rfl) fun H1 e1 => ?_
  refine s_whenRv (w := 1) (v := 0) (ev_var rfl) (hR.ex e1) rfl hB (by decide) (by decide) fun H2 F2 hR2 => ?_
  exact s_when (b := false) (et_is (et_test (ev_eq ev_c ev_c rfl)) (by decide +kernel)) (fun hb => by cases hb) fun _ H3 e3 => k H3 (((FrA.ex e1).trans F2).trans (FrA.ex e3)) (hR2.ex e3)
def sp_rfnum (C : Addr) : Sp := fun vs H Q _ => ∃ (a d : Addr) (ds : List Nat) (i : Nat) (h : Hd), vs = [.ref a, .bl h.vr] ∧ RdD C H a d ds (8 * i) ∧ okHd h ∧ BAt ds i (form h.nm) ∧ ∀ H', FrA a H H' → RdD C H' a d ds (8 * (i + (form h.nm).length)) → Q (.int (h.nm : Int)) H'
theorem ok_read_frame_number (T : TX K mg) : FnOk P w K mg base CX0 5 T.a_read_frame_number T.d_read_frame_number ["reader", "variable"] (sp_rfnum T.C_BitReader) := by
  refine T.F_read_frame_number.ok sc_read_frame_number (fun vs H Q E h => by obtain ⟨a, d, ds, i, h, rfl, _⟩ := h; rfl) (fun cdv A outer s H vs Q E hr h => ?_)
  obtain ⟨a, d, ds, i, h, rfl, hR, ok, hB, k⟩ := h
  refine ⟨_, (pss_cons (ps_set (i := 2) sc_read_frame_number.nd rfl (Or.inl rfl) (pe_meth0 (pv 0) T.cl_BitReader T.me_BitReader_byte_place (ok_BitReader_byte_place T) (hr.mono (by decide)) T.b_BitReader_byte_place .nil pass0))
      (pss_cons (ps_set (i := 3) sc_read_frame_number.nd rfl (Or.inl rfl) (pe_call (ok_read_number T) (hr.mono (by decide)) (by rfl) T.g_read_number T.F_read_number.kp T.b_read_number .nil pass0 (pa_cons (pv 0) pa_nil)))
      (pss_cons (ps_set (i := 4) sc_read_frame_number.nd rfl (Or.inl rfl) (pe_ifExp (pt_val (pv 1)) (pe_glob (by rfl) T.c_MOST_SAMPLES T.r_MOST_SAMPLES) (pe_glob (by rfl) T.c_MOST_FRAMES T.r_MOST_FRAMES)))
      (pss_cons (ps_if (pt_cmpR op_gt (pv 3) (pv 4) (nomark _)) (pss_one ps_never) pss_nil)
      (pss_one (ps_ret (pv 3))))))), ?_⟩
  refine q_asg (ev_place (f := fun pos => (pos / 8 : Nat)) (ev_var rfl) hR.1 rfl) fun H1 e1 => ?_
  refine q_asgC (vs := [.ref a]) (ea_cons (ev_var rfl) ea_nil) fun H2 e2 => ⟨a, d, ds, i, h.nm, rfl, (hR.ex (e1.trans e2)).1, (hR.ex (e1.trans e2)).2.1, hR.2.2.1, hR.2.2.2, ok.n1, fun j x hx => hB.get hx, fun H3 F3 hR3 hd3 => ?_⟩
  have F03 := (FrA.ex (e1.trans e2)).trans F3
  have hR3 := hR.to F03 hR3
  refine q_asg (v := .int (if h.vr = true then 68719476735 else 2147483647)) (ev_if (b := h.vr) (et_B (ev_var rfl)) (fun hb => Ev.is ev_c (by rw [if_pos hb])) (fun hb => Ev.is ev_c (by rw [if_neg (by rw [hb]; decide)]))) fun H4 e4 => ?_
  have hn1 := ok.n1
  have hmost : (h.nm : Int) ≤ if h.vr = true then 68719476735 else 2147483647 := by
    cases hv : h.vr with
    | true => rw [if_pos rfl]; omega
    | false => rw [if_neg (by decide)]; have := ok.n2 hv; omega
  refine q_when (b := false) (et_is (et_test (ev_I0 (g := fun i j => .bl (decide (j < i))) (ev_var rfl) (ev_var rfl))) (decide_eq_false (by omega))) (fun hb => by cases hb) fun _ H5 e5 => ?_
  refine s_ret (ev_var rfl) fun H6 e6 => k H6 (F03.trans (FrA.ex (e4.trans (e5.trans e6)))) ?_
  rw [form_len]
  exact hR3.ex (e4.trans (e5.trans e6))
def sp_rbsz (C : Addr) : Sp := fun vs H Q _ => ∃ (a d : Addr) (ds : List Nat) (i s : Nat), vs = [.ref a, .int ((szC s : Nat) : Int)] ∧ RdD C H a d ds (8 * i) ∧ 1 ≤ s ∧ s ≤ 65535 ∧ BAt ds i (szB s) ∧ ∀ H', FrA a H H' → RdD C H' a d ds (8 * (i + (szB s).length)) → Q (.int (s : Int)) H'
theorem one_byte (x : Nat) : [x].flatMap bits8 = bitsN 8 x := by rw [List.flatMap_cons, List.flatMap_nil, List.append_nil, bits8_N]
theorem ok_read_block_size (T : TX K mg) : FnOk P w K mg base CX0 2 T.a_read_block_size T.d_read_block_size ["reader", "code"] (sp_rbsz T.C_BitReader) := by
  refine T.F_read_block_size.ok sc_read_block_size (fun vs H Q E h => by obtain ⟨a, d, ds, i, s, rfl, _⟩ := h; rfl) (fun cdv A outer s0 H vs Q E hr h => ?_)
  obtain ⟨a, d, ds, i, s, rfl, hR, h1, h2, hB, k⟩ := h
  refine ⟨_, (pss_cons (ps_set (i := 2) sc_read_block_size.nd rfl (Or.inl rfl) (pe_meth0 (pv 0) T.cl_BitReader T.me_BitReader_byte_place (ok_BitReader_byte_place T) (hr.mono (by decide)) T.b_BitReader_byte_place .nil pass0))
      (pss_cons (ps_if (pt_cmpR op_eq (pv 1) pe_int (nomark _)) (pss_one (ps_ret (pe_op op_add (pe_meth (pv 0) T.cl_BitReader T.me_BitReader_read (ok_BitReader_read T) (hr.mono (by decide)) T.b_BitReader_read .nil pass0 (pa_cons pe_int pa_nil)) pe_int))) pss_nil)
      (pss_cons (ps_if (pt_cmpR op_ne (pv 1) pe_int (nomark _)) (pss_one (ps_ret (pe_ix (r := rIxT K) ix_tup (pe_glob (v := V.ref T.A_BLOCK_SIZES) (by rfl) T.c_BLOCK_SIZES rfl) (pv 1) (fun _ _ => rfl)))) pss_nil)
      (pss_cons (ps_set (i := 3) sc_read_block_size.nd rfl (Or.inl rfl) (pe_op op_add (pe_meth (pv 0) T.cl_BitReader T.me_BitReader_read (ok_BitReader_read T) (hr.mono (by decide)) T.b_BitReader_read .nil pass0 (pa_cons pe_int pa_nil)) pe_int))
      (pss_cons (ps_if (pt_cmpR op_gt (pv 3) (pe_glob (by rfl) T.c_MOST_BLOCK_SIZE T.r_MOST_BLOCK_SIZE) (nomark _)) (pss_one ps_never) pss_nil)
      (pss_one (ps_ret (pv 3)))))))), ?_⟩
  refine q_asg (ev_place (f := fun pos => (pos / 8 : Nat)) (ev_var rfl) hR.1 rfl) fun H1 e1 => ?_
  have hH := hB.has
  have tst : ∀ (n : Nat) {σ : L2.St} {H' : Hp}, σ[1]? = some (some (.int ((szC s : Nat) : Int))) → EvT (tTest (tOp rEq (tVar 1) (tC (.int (n : Int))))) σ H' (decide (szC s = n)) := fun n σ H' h => et_test (Ev.is (ev_eq (ev_var h) ev_c rfl) (congrArg V.bl (decide_eq_decide.mpr ⟨fun z => by have := V.int.inj z; omega, fun z => by rw [z]⟩)))
  by_cases h6 : szC s = 6
  · have hb : szB s = [s - 1] := by unfold szB; rw [if_pos h6]
    rw [hb, one_byte] at hH
    rw [hb] at k
    have h256 := szC6 h6
    refine q_when (b := true) (et_is (tst 6 rfl) (decide_eq_true h6)) (fun _ H2 e2 => ?_) (fun hb => by cases hb)
    refine s_retRo (w := 8) (v := s - 1) (ev_var rfl) (hR.ex (e1.trans e2)) rfl hH (by omega) (by decide) fun H3 F3 hR3 => ?_
    exact s_ret (Ev.is (ev_I0 (g := fun i j => .int (i + j)) ev_c ev_c) (congrArg V.int (by omega))) fun H4 e4 => k H4 (((FrA.ex (e1.trans e2)).trans F3).trans (FrA.ex e4)) (by have := hR3.ex e4; rwa [show 8 * i + 8 = 8 * (i + [s - 1].length) by show _ = 8 * (i + 1); omega] at this)
  refine q_when (b := false) (et_is (tst 6 rfl) (decide_eq_false h6)) (fun hb => by cases hb) fun _ H2 e2 => ?_
  have e12 := e1.trans e2
  by_cases h7 : szC s = 7
  · have hb : szB s = [(s - 1) / 256, (s - 1) % 256] := by unfold szB; rw [if_neg h6, if_pos h7]
    rw [hb, ← bits16 (by omega)] at hH
    rw [hb] at k
    refine q_when (b := false) (et_is (et_test (Ev.is (ev_ne (ev_var rfl) ev_c rfl) rfl)) (by rw [decide_eq_true (by rw [h7]; rfl)]; rfl)) (fun hb => by cases hb) fun _ H3 e3 => ?_
    refine q_asgRo (w := 16) (v := s - 1) (ev_var rfl) (hR.ex (e12.trans e3)) rfl hH (by omega) (by decide) fun H4 F4 hR4 => ?_
    refine q_asg (v := .int (s : Int)) (Ev.is (ev_I0 (g := fun i j => .int (i + j)) ev_c ev_c) (congrArg V.int (by omega))) fun H5 e5 => ?_
    refine q_when (b := false) (et_is (et_test (ev_I0 (g := fun i j => .bl (decide (j < i))) (ev_var rfl) ev_c)) (decide_eq_false (by omega))) (fun hb => by cases hb) fun _ H6 e6 => ?_
    exact s_ret (ev_var rfl) fun H7 e7 => k H7 (((FrA.ex (e12.trans e3)).trans F4).trans (FrA.ex (e5.trans (e6.trans e7)))) (by have := hR4.ex (e5.trans (e6.trans e7)); rwa [show 8 * i + 16 = 8 * (i + [(s - 1) / 256, (s - 1) % 256].length) by show _ = 8 * (i + 2); omega] at this)
  · have hb : szB s = [] := by unfold szB; rw [if_neg h6, if_neg h7]
    rw [hb] at k
    have hm : 0 < s ∧ s ∈ bsT := by
      by_cases hm : 0 < s ∧ s ∈ bsT
      · exact hm
      · have hz : szC s = if s ≤ 256 then 6 else 7 := by unfold szC; rw [if_neg hm]
        split at hz <;> omega
    have hat : (oV bsT)[szC s]? = some (.int (s : Int)) := by
      unfold szC
      rw [if_pos hm]
      exact tabO_at hm.1 hm.2
    refine q_when (b := true) (et_is (et_test (Ev.is (ev_ne (ev_var rfl) ev_c rfl) rfl)) (by rw [decide_eq_false (fun z => by have := V.int.inj z; omega)]; rfl)) (fun _ H3 e3 => ?_) (fun hb => by cases hb)
    exact s_ret (ev_atT (n := ((szC s : Nat) : Int)) ev_c (s_bs T _) (ev_var rfl) (at_of (j := szC s) rfl hat)) fun H4 e4 => k H4 (FrA.ex (e12.trans (e3.trans e4))) (hR.ex (e12.trans (e3.trans e4)))
def sp_rrt (C : Addr) : Sp := fun vs H Q _ => ∃ (a d : Addr) (ds : List Nat) (i r other : Nat), vs = [.ref a, .int ((rtC r : Nat) : Int), .int (other : Int)] ∧ RdD C H a d ds (8 * i) ∧ (rtC r = 0 → other = r) ∧ BAt ds i (rtB r) ∧ ∀ H', FrA a H H' → RdD C H' a d ds (8 * (i + (rtB r).length)) → Q (.int (r : Int)) H'
theorem rtC_tab {r : Nat} (h0 : rtC r ≠ 0) (h : rtC r < 12) : 0 < r ∧ r ∈ rtT := by
  by_cases hm : 0 < r ∧ r ∈ rtT
  · exact hm
  · unfold rtC at h h0
    rw [if_neg hm] at h h0
    repeat' split at h
    all_goals first | omega | skip
    rename_i a b c
    rw [if_neg a, if_neg b, if_neg c] at h0
    omega
theorem rtC_12 {r : Nat} (h : rtC r = 12) : r % 1000 = 0 ∧ r ≤ 255000 := by
  have hn := rtC_hi (r := r) (by omega)
  unfold rtC at h
  rw [if_neg hn] at h
  repeat' split at h
  all_goals first | omega | skip
theorem rtC_14 {r : Nat} (h : rtC r = 14) : r % 10 = 0 ∧ r ≤ 655350 := by
  have hn := rtC_hi (r := r) (by omega)
  unfold rtC at h
  rw [if_neg hn] at h
  repeat' split at h
  all_goals first | omega | skip
theorem rtC_15 (r : Nat) : rtC r ≠ 15 := fun h => by
  have := rtC_is (r := r) (by omega)
  omega
theorem ok_read_rate (T : TX K mg) : FnOk P w K mg base CX0 2 T.a_read_rate T.d_read_rate ["reader", "code", "rate"] (sp_rrt T.C_BitReader) := by
  refine T.F_read_rate.ok sc_read_rate (fun vs H Q E h => by obtain ⟨a, d, ds, i, s, o, rfl, _⟩ := h; rfl) (fun cdv A outer s0 H vs Q E hr h => ?_)
  obtain ⟨a, d, ds, i, r, other, rfl, hR, ho, hB, k⟩ := h
  refine ⟨_, (pss_cons (ps_if (pt_cmpR op_eq (pv 1) pe_int (nomark _)) (pss_one (ps_ret (pv 2))) pss_nil)
      (pss_cons (ps_if (pt_cmpR op_eq (pv 1) pe_int (nomark _)) (pss_one (ps_ret (pe_op op_mul (pe_meth (pv 0) T.cl_BitReader T.me_BitReader_read (ok_BitReader_read T) (hr.mono (by decide)) T.b_BitReader_read .nil pass0 (pa_cons pe_int pa_nil)) pe_int))) pss_nil)
      (pss_cons (ps_if (pt_cmpR op_eq (pv 1) pe_int (nomark _)) (pss_one (ps_ret (pe_meth (pv 0) T.cl_BitReader T.me_BitReader_read (ok_BitReader_read T) (hr.mono (by decide)) T.b_BitReader_read .nil pass0 (pa_cons pe_int pa_nil)))) pss_nil)
      (pss_cons (ps_if (pt_cmpR op_eq (pv 1) pe_int (nomark _)) (pss_one (ps_ret (pe_op op_mul (pe_meth (pv 0) T.cl_BitReader T.me_BitReader_read (ok_BitReader_read T) (hr.mono (by decide)) T.b_BitReader_read .nil pass0 (pa_cons pe_int pa_nil)) pe_int))) pss_nil)
      (pss_one (ps_ret (pe_ix (r := rIxT K) ix_tup (pe_glob (v := V.ref T.A_RATES) (by rfl) T.c_RATES rfl) (pv 1) (fun _ _ => rfl)))))))), ?_⟩
  have hH := hB.has
  have tst : ∀ (n : Nat) {σ : L2.St} {H' : Hp}, σ[1]? = some (some (.int ((rtC r : Nat) : Int))) → EvT (tTest (tOp rEq (tVar 1) (tC (.int (n : Int))))) σ H' (decide (rtC r = n)) := fun n σ H' h => et_test (Ev.is (ev_eq (ev_var h) ev_c rfl) (congrArg V.bl (decide_eq_decide.mpr ⟨fun z => by have := V.int.inj z; omega, fun z => by rw [z]⟩)))
  have h15 := rtC_15 r
  have hlt := rtC_lt r
  by_cases h0 : rtC r = 0
  · have hb : rtB r = [] := by unfold rtB; rw [if_neg (by omega), if_neg (by omega), if_neg (by omega)]
    rw [hb] at k
    refine q_when (b := true) (et_is (tst 0 rfl) (decide_eq_true h0)) (fun _ H2 e2 => ?_) (fun hb => by cases hb)
    exact s_ret (Ev.is (ev_var rfl) (by rw [ho h0])) fun H3 e3 => k H3 (FrA.ex (e2.trans e3)) (hR.ex (e2.trans e3))
  refine q_when (b := false) (et_is (tst 0 rfl) (decide_eq_false h0)) (fun hb => by cases hb) fun _ H1 e1 => ?_
  by_cases h12 : rtC r = 12
  · have hb : rtB r = [r / 1000] := by unfold rtB; rw [if_pos h12]
    rw [hb, one_byte] at hH
    rw [hb] at k
    have := rtC_12 h12
    refine q_when (b := true) (et_is (tst 12 rfl) (decide_eq_true h12)) (fun _ H2 e2 => ?_) (fun hb => by cases hb)
    refine s_retRo (w := 8) (v := r / 1000) (ev_var rfl) (hR.ex (e1.trans e2)) rfl hH (by omega) (by decide) fun H3 F3 hR3 => ?_
    exact s_ret (Ev.is (ev_I ev_c ev_c (.inr (by decide))) (congrArg V.int (by omega))) fun H4 e4 => k H4 (((FrA.ex (e1.trans e2)).trans F3).trans (FrA.ex e4)) (by have := hR3.ex e4; rwa [show 8 * i + 8 = 8 * (i + [r / 1000].length) by show _ = 8 * (i + 1); omega] at this)
  refine q_when (b := false) (et_is (tst 12 rfl) (decide_eq_false h12)) (fun hb => by cases hb) fun _ H2 e2 => ?_
  have e12 := e1.trans e2
  by_cases h13 : rtC r = 13
  · have hb : rtB r = [r / 256, r % 256] := by unfold rtB; rw [if_neg h12, if_pos h13]
    have := rtC_is (r := r) (by omega)
    rw [hb, ← bits16 (by omega)] at hH
    rw [hb] at k
    refine q_when (b := true) (et_is (tst 13 rfl) (decide_eq_true h13)) (fun _ H3 e3 => ?_) (fun hb => by cases hb)
    exact s_retRv (w := 16) (v := r) (ev_var rfl) (hR.ex (e12.trans e3)) rfl hH (by omega) (by decide) fun H4 F4 hR4 => k H4 ((FrA.ex (e12.trans e3)).trans F4) (by rwa [show 8 * i + 16 = 8 * (i + [r / 256, r % 256].length) by show _ = 8 * (i + 2); omega] at hR4)
  refine q_when (b := false) (et_is (tst 13 rfl) (decide_eq_false h13)) (fun hb => by cases hb) fun _ H3 e3 => ?_
  have e13 := e12.trans e3
  by_cases h14 : rtC r = 14
  · have hb : rtB r = [r / 10 / 256, r / 10 % 256] := by unfold rtB; rw [if_neg h12, if_neg h13, if_pos h14]
    have := rtC_14 h14
    rw [hb, ← bits16 (by omega)] at hH
    rw [hb] at k
    refine q_when (b := true) (et_is (tst 14 rfl) (decide_eq_true h14)) (fun _ H4 e4 => ?_) (fun hb => by cases hb)
    refine s_retRo (w := 16) (v := r / 10) (ev_var rfl) (hR.ex (e13.trans e4)) rfl hH (by omega) (by decide) fun H5 F5 hR5 => ?_
    exact s_ret (Ev.is (ev_I ev_c ev_c (.inr (by decide))) (congrArg V.int (by omega))) fun H6 e6 => k H6 (((FrA.ex (e13.trans e4)).trans F5).trans (FrA.ex e6)) (by have := hR5.ex e6; rwa [show 8 * i + 16 = 8 * (i + [r / 10 / 256, r / 10 % 256].length) by show _ = 8 * (i + 2); omega] at this)
  refine q_when (b := false) (et_is (tst 14 rfl) (decide_eq_false h14)) (fun hb => by cases hb) fun _ H4 e4 => ?_
  have hb : rtB r = [] := by unfold rtB; rw [if_neg h12, if_neg h13, if_neg h14]
  rw [hb] at k
  have hm := rtC_tab h0 (by omega)
  have hat : (oV rtT)[rtC r]? = some (.int (r : Int)) := by
    unfold rtC
    rw [if_pos hm]
    exact tabO_at hm.1 hm.2
  exact s_ret (ev_atT (n := ((rtC r : Nat) : Int)) ev_c (s_rt T _) (ev_var rfl) (at_of (j := rtC r) rfl hat)) fun H5 e5 => k H5 (FrA.ex (e13.trans (e4.trans e5))) (hR.ex (e13.trans (e4.trans e5)))
def sp_rcrc (C : Addr) : Sp := fun vs H Q _ => ∃ (a d : Addr) (ds : List Nat) (i : Nat) (l : List Nat), vs = [.ref a, .int (i : Int)] ∧ RdD C H a d ds (8 * (i + l.length)) ∧ (∀ b ∈ l, b < 256) ∧ BAt ds i (l ++ [crcN 8 T8 0 l]) ∧ ∀ H', FrA a H H' → RdD C H' a d ds (8 * (i + l.length + 1)) → Q .non H'
theorem ok_read_checksum (T : TX K mg) : FnOk P w K mg base CX0 3 T.a_read_checksum T.d_read_checksum ["reader", "start"] (sp_rcrc T.C_BitReader) := by
  refine T.F_read_checksum.ok sc_read_checksum (fun vs H Q E h => by obtain ⟨a, d, ds, i, l, rfl, _⟩ := h; rfl) (fun cdv A outer s0 H vs Q E hr h => ?_)
  obtain ⟨a, d, ds, i, l, rfl, hR, hl, hB, k⟩ := h
  refine ⟨_, (pss_cons (ps_set (i := 2) sc_read_checksum.nd rfl (Or.inl rfl) (pe_meth0 (pv 0) T.cl_BitReader T.me_BitReader_byte_place (ok_BitReader_byte_place T) (hr.mono (by decide)) T.b_BitReader_byte_place .nil pass0))
      (pss_cons (ps_set (i := 3) sc_read_checksum.nd rfl (Or.inl rfl) (pe_call (ok_crc8 T) (hr.mono (by decide)) (by rfl) T.g_crc8 T.F_crc8.kp T.b1_crc8 T.v1_crc8 pass0 (pa_cons (pe_meth (pv 0) T.cl_BitReader T.me_BitReader_since (ok_BitReader_since T) (hr.mono (by decide)) T.b_BitReader_since .nil pass0 (pa_cons (pv 1) pa_nil)) pa_nil)))
      (pss_one (ps_if (pt_cmpR op_ne (pe_meth (pv 0) T.cl_BitReader T.me_BitReader_read (ok_BitReader_read T) (hr.mono (by decide)) T.b_BitReader_read .nil pass0 (pa_cons pe_int pa_nil)) (pv 3) (nomark _)) (pss_one ps_never) pss_nil)))), ?_⟩
  refine q_asg (ev_place (f := fun pos => (pos / 8 : Nat)) (ev_var rfl) hR.1 rfl) fun H1 e1 => ?_
  obtain ⟨dx, ha⟩ := (hR.ex e1).1
  have hc256 : crcN 8 T8 0 l < 256 := (crcN_ok tab8 l 0 (by decide) hl).1
  have hcut : (ds.drop i).take (8 * (i + l.length) / 8 - i) = l := by
    rw [show 8 * (i + l.length) / 8 - i = l.length by omega]
    exact hB.l.cut
  refine q_asg (v := .int ((crcN 8 T8 0 l : Nat) : Int)) (ev_callL1 (xs := (cs l).map V.int) (fun G e Q q => ?_) fun p G e g Q E q => ⟨p, l, 0, rfl, sq_of g, by decide, hl, q⟩) fun H2 e2 => ?_
  · refine mth (vs := [.int (i : Int)]) (ev_var rfl) (e _ _ ha) rfl (ea_cons (ev_var rfl) ea_nil) fun G2 e2' => ⟨a, d, ds, 8 * (i + l.length), i, rfl, (hR.ex (e1.trans (e.trans e2'))).1, (hR.ex (e1.trans (e.trans e2'))).2.1, fun p G3 hp e3' g => q p G3 (fresh_back e2' hp) (e2'.trans e3') (by rw [hcut] at g; exact g)⟩
  have hH := hB.r.has
  rw [one_byte] at hH
  refine s_whenRv (w := 8) (v := crcN 8 T8 0 l) (ev_var rfl) (hR.ex (e1.trans e2)) rfl hH hc256 (by decide) fun H3 F3 hR3 => ?_
  exact s_when (b := false) (et_is (et_test (ev_ne ev_c (ev_var rfl) rfl)) (by rw [decide_eq_true rfl]; rfl)) (fun hb => by cases hb) fun _ H4 e4 => k H4 (((FrA.ex (e1.trans e2)).trans F3).trans (FrA.ex e4)) (by have := hR3.ex e4; rwa [show 8 * (i + l.length) + 8 = 8 * (i + l.length + 1) by omega] at this)

theorem q_asgPair {σ : L2.St} {H : Hp} {i j : Nat} {t : Addr} {x y : V} {D : Ends} {tz : TS} (hT : H t = some (.tup [x, y])) (k : tz D ((σ.set i (some x)).set j (some y)) H) : tSeq (tAsg (tC (.ref t)) (gTup K 2 (gCons (gName i) (gCons (gName j) gNil)))) tz D σ H := ⟨t, [x, y], rfl, st_of hT, rfl, x, [y], rfl, y, [], rfl, rfl, k⟩
theorem q_asgCg {σ : L2.St} {H : Hp} {tA : TA} {vs dvs : List V} {sp : Sp} {E : XK} {g : TG} {D : Ends} {tz : TS} (h : EvA tA σ H vs) (k : ∀ H1, Ex H H1 → sp (vs ++ dvs) H1 (fun x H2 => tSeq (tAsg (tC x) g) tz D σ H2) E) : tSeq (tAsg (tCall sp dvs E tA) g) tz D σ H := h H (Ex.refl H) _ fun H1 e => k H1 e
def sp_rhead (CR CH : Addr) : Sp := fun vs H Q _ => ∃ (a d : Addr) (ds : List Nat) (i : Nat) (h : Hd) (orate odep : Nat), vs = [.ref a, .int (orate : Int), .int (odep : Int)] ∧ RdD CR H a d ds (8 * i) ∧ okHd h ∧ (rtC h.rt = 0 → orate = h.rt) ∧ (dpC h.dp = 0 → odep = h.dp) ∧ BAt ds i (hdA h) ∧ ∀ p H', H p = none → FrA a H H' → HAt CH H' p h → RdD CR H' a d ds (8 * (i + (hdA h).length)) → Q (.ref p) H'
theorem ok_read_header (T : TX K mg) : FnOk P w K mg base CX0 6 T.a_read_header T.d_read_header ["reader", "rate", "depth"] (sp_rhead T.C_BitReader T.C_FrameHeader) := by
  refine T.F_read_header.ok sc_read_header (fun vs H Q E h => by obtain ⟨a, d, ds, i, h, o1, o2, rfl, _⟩ := h; rfl) (fun cdv A outer s0 H vs Q E hr h => ?_)
  obtain ⟨a, d, ds, i, h, orate, odep, rfl, hR, ok, ho1, ho2, hB, k⟩ := h
  refine ⟨_, (pss_cons (ps_set (i := 3) sc_read_header.nd rfl (Or.inl rfl) (pe_meth0 (pv 0) T.cl_BitReader T.me_BitReader_byte_place (ok_BitReader_byte_place T) (hr.mono (by decide)) T.b_BitReader_byte_place .nil pass0))
      (pss_cons (ps_expr (pe_call (ok_read_sync T) (hr.mono (by decide)) (by rfl) T.g_read_sync T.F_read_sync.kp T.b_read_sync .nil pass0 (pa_cons (pv 0) pa_nil)))
      (pss_cons (ps_set (i := 4) sc_read_header.nd rfl (Or.inl rfl) (pe_cmpR op_eq (pe_meth (pv 0) T.cl_BitReader T.me_BitReader_read (ok_BitReader_read T) (hr.mono (by decide)) T.b_BitReader_read .nil pass0 (pa_cons pe_int pa_nil)) pe_int (nomark _)))
      (pss_cons (ps_set (i := 5) sc_read_header.nd rfl (Or.inl rfl) (pe_call (ok_read_size_code T) (hr.mono (by decide)) (by rfl) T.g_read_size_code T.F_read_size_code.kp T.b_read_size_code .nil pass0 (pa_cons (pv 0) pa_nil)))
      (pss_cons (ps_set (i := 6) sc_read_header.nd rfl (Or.inl rfl) (pe_call (ok_read_rate_code T) (hr.mono (by decide)) (by rfl) T.g_read_rate_code T.F_read_rate_code.kp T.b_read_rate_code .nil pass0 (pa_cons (pv 0) pa_nil)))
      (pss_cons (ps_asg (pe_call (ok_read_channels T) (hr.mono (by decide)) (by rfl) T.g_read_channels T.F_read_channels.kp T.b_read_channels .nil pass0 (pa_cons (pv 0) pa_nil)) (pg_tup rfl (pgs_cons (pg_name (i := 7) sc_read_header.nd rfl (Or.inl rfl)) (pgs_cons (pg_name (i := 8) sc_read_header.nd rfl (Or.inl rfl)) pgs_nil))))
      (pss_cons (ps_set (i := 9) sc_read_header.nd rfl (Or.inl rfl) (pe_call (ok_read_depth T) (hr.mono (by decide)) (by rfl) T.g_read_depth T.F_read_depth.kp T.b_read_depth .nil pass0 (pa_cons (pv 0) (pa_cons (pv 2) pa_nil))))
      (pss_cons (ps_expr (pe_call (ok_read_zero_bit T) (hr.mono (by decide)) (by rfl) T.g_read_zero_bit T.F_read_zero_bit.kp T.b_read_zero_bit .nil pass0 (pa_cons (pv 0) pa_nil)))
      (pss_cons (ps_set (i := 10) sc_read_header.nd rfl (Or.inl rfl) (pe_call (ok_read_frame_number T) (hr.mono (by decide)) (by rfl) T.g_read_frame_number T.F_read_frame_number.kp T.b_read_frame_number .nil pass0 (pa_cons (pv 0) (pa_cons (pv 4) pa_nil))))
      (pss_cons (ps_set (i := 11) sc_read_header.nd rfl (Or.inl rfl) (pe_call (ok_read_block_size T) (hr.mono (by decide)) (by rfl) T.g_read_block_size T.F_read_block_size.kp T.b_read_block_size .nil pass0 (pa_cons (pv 0) (pa_cons (pv 5) pa_nil))))
      (pss_cons (ps_set (i := 12) sc_read_header.nd rfl (Or.inl rfl) (pe_call (ok_read_rate T) (hr.mono (by decide)) (by rfl) T.g_read_rate T.F_read_rate.kp T.b_read_rate .nil pass0 (pa_cons (pv 0) (pa_cons (pv 6) (pa_cons (pv 1) pa_nil)))))
      (pss_cons (ps_expr (pe_call (ok_read_checksum T) (hr.mono (by decide)) (by rfl) T.g_read_checksum T.F_read_checksum.kp T.b_read_checksum .nil pass0 (pa_cons (pv 0) (pa_cons (pv 3) pa_nil))))
      (pss_one (ps_ret (pe_makeK0 T.M_FrameHeader (ok_FrameHeader_init T) (hr.mono (by decide)) (by rfl) T.g_FrameHeader T.k1_variable_block_size_rate_channels_assignment_depth_number_FrameHeader_init pass0 (pk_cons (pv 4) (pk_cons (pv 11) (pk_cons (pv 12) (pk_cons (pv 7) (pk_cons (pv 8) (pk_cons (pv 9) (pk_cons (pv 10) pk_nil)))))))))))))))))))))), ?_⟩
  have h1 := szC_lt h.bz
  have h2 := rtC_lt h.rt
  have h3 := dpC_lt h.dp
  have h4 := ok.cc
  have h5 : h.vr.toNat < 2 := by cases h.vr <;> decide
  have hsz0 : szC h.bz ≠ 0 := by
    unfold szC
    split
    · rename_i hm
      exact idx_ne hm.2 (by intro z; have h0 := Option.some.inj (show some 0 = some h.bz from z); have := ok.b1; omega)
    · split <;> omega
  have hBB : BAt ds i (hd4B h ++ (form h.nm ++ (szB h.bz ++ rtB h.rt))) := by
    have : hdA h = (hd4B h ++ (form h.nm ++ (szB h.bz ++ rtB h.rt))) ++ [crcN 8 T8 0 (hdB h)] := rfl
    rw [this] at hB
    exact hB.l
  have hb4 := hBB.l.has
  have hb4 : Has (ds.flatMap bits8) (8 * i) ((((((([] ++ bitsN 14 16382) ++ bitsN 1 0) ++ bitsN 1 h.vr.toNat) ++ bitsN 4 (szC h.bz)) ++ bitsN 4 (rtC h.rt)) ++ bitsN 4 h.cc) ++ bitsN 3 (dpC h.dp) ++ bitsN 1 0) := by rw [hd4 h5 h2 h3]; exact hb4
  have hz := hb4.r
  have hd := hb4.l.r
  have hc := hb4.l.l.r
  have hrt := hb4.l.l.l.r
  have hs := hb4.l.l.l.l.r
  have hv := hb4.l.l.l.l.l.r
  have hy := hb4.l.l.l.l.l.l
  simp only [List.length_append, bitsN_len, List.length_nil, Nat.zero_add, List.nil_append] at hz hd hc hrt hs hv hy
  have hnum := hBB.r.l
  have hbs := hBB.r.r.l
  have hrr := hBB.r.r.r
  rw [show (hd4B h).length = 4 from rfl] at hnum hbs hrr
  refine q_asg (ev_place (f := fun pos => (pos / 8 : Nat)) (ev_var rfl) hR.1 rfl) fun H1 e1 => ?_
  refine q_dropC (vs := [.ref a]) (ea_cons (ev_var rfl) ea_nil) fun H2 e2 => ⟨a, d, ds, 8 * i, rfl, hR.ex (e1.trans e2), hy, fun H3 F3 hR3 => ?_⟩
  have F03 := (FrA.ex (e1.trans e2)).trans F3
  refine q_asgRo (w := 1) (v := h.vr.toNat) (ev_var rfl) hR3 rfl hv h5 (by decide) fun H4 F4 hR4 => ?_
  refine q_asg (v := .bl h.vr) (Ev.is (ev_eq ev_c ev_c rfl) (congrArg V.bl (by cases h.vr <;> decide +kernel))) fun H5 e5 => ?_
  have F05 := (F03.trans F4).trans (FrA.ex e5)
  refine q_asgC (vs := [.ref a]) (ea_cons (ev_var rfl) ea_nil) fun H6 e6 => ⟨a, d, ds, 8 * i + 15 + 1, szC h.bz, rfl, hR4.ex (e5.trans e6), h1, hsz0, hs, fun H7 F7 hR7 => ?_⟩
  have F07 := (F05.trans (FrA.ex e6)).trans F7
  refine q_asgC (vs := [.ref a]) (ea_cons (ev_var rfl) ea_nil) fun H8 e8 => ⟨a, d, ds, 8 * i + 15 + 1 + 4, rtC h.rt, rfl, hR7.ex e8, h2, rtC_15 _, hrt, fun H9 F9 hR9 => ?_⟩
  have F09 := (F07.trans (FrA.ex e8)).trans F9
  refine q_asgCg (vs := [.ref a]) (ea_cons (ev_var rfl) ea_nil) fun H10 e10 => ⟨a, d, ds, 8 * i + 15 + 1 + 4 + 4, h, rfl, hR9.ex e10, ok, hc, fun t H11 F11 gt hR11 => q_asgPair gt ?_⟩
  have F011 := (F09.trans (FrA.ex e10)).trans F11
  show tSeq _ _ _ [some (.ref a), some (.int (orate : Int)), some (.int (odep : Int)), some (.int ((8 * i / 8 : Nat) : Int)), some (.bl h.vr), some (.int ((szC h.bz : Nat) : Int)), some (.int ((rtC h.rt : Nat) : Int)), some (.int (h.ch : Int)), some (.str h.wy), none, none, none, none] _
  refine q_asgC (vs := [.ref a, .int (odep : Int)]) (ea_cons (ev_var rfl) (ea_cons (ev_var rfl) ea_nil)) fun H12 e12 => ⟨a, d, ds, 8 * i + 15 + 1 + 4 + 4 + 4, h.dp, odep, rfl, hR11.ex e12, ho2, hd, fun H13 F13 hR13 => ?_⟩
  have F013 := (F011.trans (FrA.ex e12)).trans F13
  refine q_dropC (vs := [.ref a]) (ea_cons (ev_var rfl) ea_nil) fun H14 e14 => ⟨a, d, ds, 8 * i + 15 + 1 + 4 + 4 + 4 + 3, rfl, hR13.ex e14, hz, fun H15 F15 hR15 => ?_⟩
  have F015 := (F013.trans (FrA.ex e14)).trans F15
  have hR15 : RdD T.C_BitReader H15 a d ds (8 * (i + 4)) := by rwa [show 8 * i + 15 + 1 + 4 + 4 + 4 + 3 + 1 = 8 * (i + 4) by omega] at hR15
  refine q_asgC (vs := [.ref a, .bl h.vr]) (ea_cons (ev_var rfl) (ea_cons (ev_var rfl) ea_nil)) fun H16 e16 => ⟨a, d, ds, i + 4, h, rfl, hR15.ex e16, ok, hnum, fun H17 F17 hR17 => ?_⟩
  have F017 := (F015.trans (FrA.ex e16)).trans F17
  refine q_asgC (vs := [.ref a, .int ((szC h.bz : Nat) : Int)]) (ea_cons (ev_var rfl) (ea_cons (ev_var rfl) ea_nil)) fun H18 e18 => ⟨a, d, ds, _, h.bz, rfl, hR17.ex e18, ok.b1, ok.b2, hbs, fun H19 F19 hR19 => ?_⟩
  have F019 := (F017.trans (FrA.ex e18)).trans F19
  refine q_asgC (vs := [.ref a, .int ((rtC h.rt : Nat) : Int), .int (orate : Int)]) (ea_cons (ev_var rfl) (ea_cons (ev_var rfl) (ea_cons (ev_var rfl) ea_nil))) fun H20 e20 => ⟨a, d, ds, _, h.rt, orate, rfl, hR19.ex e20, ho1, hrr, fun H21 F21 hR21 => ?_⟩
  have F021 := (F019.trans (FrA.ex e20)).trans F21
  have hlB : i + 4 + (form h.nm).length + (szB h.bz).length + (rtB h.rt).length = i + (hdB h).length := by
    unfold hdB
    rw [List.length_append, List.length_append, List.length_append, show (hd4B h).length = 4 from rfl]
    omega
  rw [hlB] at hR21
  refine q_dropC (vs := [.ref a, .int (i : Int)]) (ea_cons (ev_var rfl) (ea_cons (Ev.is (ev_var rfl) (congrArg V.int (by omega))) ea_nil)) fun H22 e22 => ⟨a, d, ds, i, hdB h, rfl, hR21.ex e22, hdB_lt ok, hB, fun H23 F23 hR23 => ?_⟩
  have F023 := (F021.trans (FrA.ex e22)).trans F23
  show tRet _ _ [some (.ref a), some (.int (orate : Int)), some (.int (odep : Int)), some (.int ((8 * i / 8 : Nat) : Int)), some (.bl h.vr), some (.int ((szC h.bz : Nat) : Int)), some (.int ((rtC h.rt : Nat) : Int)), some (.int (h.ch : Int)), some (.str h.wy), some (.int (h.dp : Int)), some (.int (h.nm : Int)), some (.int (h.bz : Int)), some (.int (h.rt : Int))] _
  refine s_retN (R := fun p H' => HAt T.C_FrameHeader H' p h) (en_makeK (vs := []) ea_nil (ea_cons (ev_var rfl) (ea_cons (ev_var rfl) (ea_cons (ev_var rfl) (ea_cons (ev_var rfl) (ea_cons (ev_var rfl) (ea_cons (ev_var rfl) (ea_cons (ev_var rfl) ea_nil))))))) rfl rfl fun a' dx G Q' E' eG hG k' => ⟨a', dx, _, _, _, _, _, _, _, rfl, hG, fun H' hF hA => k' H' hF ⟨dx, hA⟩⟩) fun p H24 hp e24 hA => ?_
  refine k p H24 (F023.back hp (by obtain ⟨⟨dx, ha⟩, _⟩ := hR23; exact ⟨_, ha⟩)) (F023.trans (FrA.ex e24)) hA ?_
  have : i + (hdA h).length = i + (hdB h).length + 1 := by unfold hdA; rw [List.length_append]; rfl
  rw [this]
  exact hR23.ex e24

/-! ### the law's forms -/
theorem ok_law_number (T : TX K mg) : FnOk P w K mg base CX0 1 T.a_law_number T.d_law_number ["value"] sp_wnum := by
  refine T.F_law_number.ok sc_law_number (fun vs H Q E h => by obtain ⟨n, rfl, _⟩ := h; rfl) (fun cdv A outer s H vs Q E hr h => ?_)
  obtain ⟨n, rfl, hn, k⟩ := h
  refine ⟨_, (pss_cons (ps_if (pt_cmpR op_lt (pv 0) pe_int (nomark _)) (pss_one (ps_ret (pe_lst (pa_cons (pv 0) pa_nil)))) pss_nil)
      (pss_cons (ps_set (i := 1) sc_law_number.nd rfl (Or.inr rfl) pe_int)
      (pss_cons (ps_while PassesOwn.never (PW.pt (pw_and (pt_cmpR op_lt (pv 1) pe_int (nomark _)) (pw_and1 (pt_cmpR op_ge (pv 0) (pe_op op_shl pe_int (pe_op op_add (pe_op op_mul pe_int (pv 1)) pe_int)) (nomark _))))) (pss_one (ps_set (i := 1) sc_law_number.nd rfl (Or.inr rfl) (pe_op op_add (pv 1) pe_int))))
      (pss_cons (ps_set (i := 2) sc_law_number.nd rfl (Or.inl rfl) (pe_op op_add (pe_op op_sub pe_int (pe_op op_shl pe_int (pe_op op_sub pe_int (pv 1)))) (pe_op op_fdivW (pv 0) (pe_op op_shl pe_int (pe_op op_mul pe_int (pe_op op_sub (pv 1) pe_int))))))
      (pss_cons (ps_setLc (i := 3) (own := [("k", 4)]) (g := gName 4) (tt := tYes) rfl sc_law_number.nd rfl rfl (sw_true rfl rfl rfl (by decide +kernel)) (pi_range1 (by rfl) T.m_range (pa_cons (pe_op op_sub (pv 1) pe_int) pa_nil)) (blkOk_by (N := ["value", "count", "first", "rest", "k"]) (sc := defScope s_law_number) (by decide +kernel)) (fun _ _ _ _ _ => pg_name (i := 4) sc_law_number.nd rfl (Or.inl rfl)) (fun _ _ _ _ _ => pts_nil) (fun _ _ _ _ _ => (pe_op op_add pe_int (pe_op op_mod (pe_op op_fdivW (pv 0) (pe_op op_shl pe_int (pe_op op_mul pe_int (pe_op op_sub (pe_op op_sub (pv 1) pe_int) (pv 4))))) pe_int))))
      (pss_one (ps_ret (pe_op op_cat (pe_lst (pa_cons (pv 2) pa_nil)) (pv 3))))))))), ?_⟩
  have h6 := sz_le n
  refine q_when (b := decide (sz n = 0)) (et_test (Ev.is (ev_I0 (ev_var rfl) ev_c) (congrArg V.bl (decide_eq_decide.mpr (by
    have h0 := sz_lim hn (s := 0) (by decide)
    have h0 : n < 128 ↔ sz n ≤ 0 := h0
    show (n : Int) < 128 ↔ _
    omega))))) (fun hb H1 e1 => ?_) (fun hb H1 e1 => ?_)
  · have h0 : sz n = 0 := of_decide_eq_true hb
    refine s_retL (el_lst (ea_cons (ev_var rfl) ea_nil) (Nat.le_of_ble_eq_true rfl)) fun p H2 hp e2 g2 => ?_
    refine k p H2 (fresh_back e1 hp) (e1.trans e2) ?_
    unfold form
    rw [h0, Nat.mul_zero, Nat.pow_zero, Nat.div_one, show hdn 0 = 0 from rfl, Nat.zero_add]
    exact g2
  · have h1 : 1 ≤ sz n := by have := of_decide_eq_false hb; omega
    refine q_asg (v := .int 2) ev_c fun H2 e2 => ?_
    have shl : ∀ (m : Nat) {j : Int} {t : TE} {σ : L2.St} {H' : Hp}, Ev t σ H' (.int j) → j = (m : Int) → m ≤ 100 → Ev (tOp (rI CPow fun i j => .int (i * 2 ^ j.toNat)) (tC (.int 1)) t) σ H' (.int ((2 ^ m : Nat) : Int)) := fun m j t σ H' h hj hm => Ev.is (ev_I ev_c h (show CPow 1 j from ⟨by omega, by omega, by decide⟩)) (congrArg V.int (by rw [hj, Int.toNat_natCast, Int.one_mul, pow_cast]))
    refine q_while (fun m σ' H' => ∃ c : Nat, m = 7 - c ∧ 2 ≤ c ∧ c ≤ sz n + 1 ∧ σ' = [some (.int (n : Int)), some (.int (c : Int)), none, none, none] ∧ Ex H H') 5 ⟨2, rfl, Nat.le_refl _, by omega, rfl, e1.trans e2⟩ ?_
    rintro m _ H3 ⟨c, rfl, hc2, hc, rfl, ex⟩
    have hlast : c < 7 → (((2 ^ (5 * c + 1) : Nat) : Int) ≤ (n : Int) ↔ c ≤ sz n) := fun h7 => by
      have h0 := sz_lim hn (s := c - 1) (by omega)
      rw [lim_eq (by omega) (by omega), show 5 * (c - 1) + 6 = 5 * c + 1 by omega] at h0
      omega
    refine ⟨decide (c < 7) && decide (c ≤ sz n), et_and (et_test (Ev.is (ev_I0 (ev_var rfl) ev_c) (congrArg V.bl (decide_eq_decide.mpr (by show (c : Int) < 7 ↔ _; omega))))) (fun hc7 => et_test (Ev.is (ev_I0 (g := fun i j => .bl (decide (j ≤ i))) (ev_var rfl) (shl (5 * c + 1) (ev_I0 (g := fun i j => .int (i + j)) (ev_I ev_c (ev_var rfl) (.inl (by decide))) ev_c) (by omega) (by omega))) (congrArg V.bl (decide_eq_decide.mpr (hlast (of_decide_eq_true hc7)))))), fun hb H4 e4 => ?_, fun hb H4 e4 => ?_⟩
    · rw [Bool.and_eq_true] at hb
      have hcs : c ≤ sz n := of_decide_eq_true hb.2
      refine ⟨fun σ2 H2 => ∃ m', m' < 7 - c ∧ _, fun σ2 H2 h => h, ?_⟩
      refine s_asg (v := .int ((c + 1 : Nat) : Int)) (Ev.is (ev_I0 (g := fun i j => .int (i + j)) (ev_var rfl) ev_c) (congrArg V.int (by omega))) fun H5 e5 => ?_
      exact ⟨7 - (c + 1), by omega, c + 1, rfl, by omega, by omega, rfl, ex.trans (e4.trans e5)⟩
    · have hcc : c = sz n + 1 := by
        by_cases h : c ≤ sz n
        · rw [decide_eq_true h, decide_eq_true (by omega)] at hb
          cases hb
        · omega
      subst hcc
      have ex4 := ex.trans e4
      have hhd := hdn_eq h1 h6
      have hp7 : 2 ^ (7 - sz n) ≤ 2 ^ 6 := Nat.pow_le_pow_right (by decide) (by omega)
      have hl2 : ∀ m, m ≤ 36 → (((2 ^ m : Nat) : Int)).natAbs.log2 < 9000 := fun m hm => by
        rw [Int.natAbs_natCast, Nat.log2_two_pow]
        omega
      have h2p : ∀ m : Nat, (0 : Int) < ((2 ^ m : Nat) : Int) := fun m => by have := Nat.two_pow_pos m; omega
      refine q_asg (v := .int ((hdn (sz n) + n / 2 ^ (6 * sz n) : Nat) : Int)) (Ev.is (ev_I0 (g := fun i j => .int (i + j)) (ev_I0 (g := fun i j => .int (i - j)) ev_c (shl (7 - sz n) (ev_I0 (g := fun i j => .int (i - j)) ev_c (ev_var rfl)) (by omega) (by omega))) (ev_I (j := ((2 ^ (6 * sz n) : Nat) : Int)) (ev_var rfl) (shl (6 * sz n) (ev_I ev_c (ev_I0 (g := fun i j => .int (i - j)) (ev_var rfl) ev_c) (.inl (by decide))) (by omega) (by omega)) ⟨h2p _, hl2 _ (by omega)⟩)) (congrArg V.int (by rw [Int.natCast_add, Int.natCast_ediv]; omega))) fun H5 e5 => ?_
      refine q_asgL (xs := (cs (rest n (sz n))).map V.int) (el_lcR (n := (sz n : Int)) _ (ea_cons (Ev.is (ev_I0 (g := fun i j => .int (i - j)) (ev_var rfl) ev_c) (congrArg V.int (by omega))) ea_nil) (by omega) (by rw [List.length_map, cs_len, rest_len]; omega) (by rw [List.length_map, cs_len, rest_len]; omega) (fun _ => rfl) fun i H6 e6 hi => ?_) fun p3 H6 hp3 e6 g6 => ?_
      · rw [List.length_map, cs_len, rest_len] at hi
        have hat : (rest n (sz n))[i]? = some (128 + n / 2 ^ (6 * (sz n - 1 - i)) % 64) := by
          unfold rest
          rw [List.getElem?_map, List.getElem?_range hi]
          rfl
        exact ⟨_, at_int (cs_at hat), Ev.is (ev_I0 (g := fun i j => .int (i + j)) ev_c (ev_I (ev_I (j := ((2 ^ (6 * (sz n - 1 - i)) : Nat) : Int)) (ev_var rfl) (shl (6 * (sz n - 1 - i)) (ev_I ev_c (ev_I0 (g := fun i j => .int (i - j)) (ev_I0 (g := fun i j => .int (i - j)) (ev_var rfl) ev_c) (ev_var rfl)) (.inl (by decide))) (by omega) (by omega)) ⟨h2p _, hl2 _ (by omega)⟩) ev_c (by decide))) (congrArg V.int (by rw [Int.natCast_add, Int.natCast_emod, Int.natCast_ediv]; rfl))⟩
      · refine s_retL (xs := (cs (form n)).map V.int) (EvL.is (el_cat (EvL.r (el_lst (vs := [.int ((hdn (sz n) + n / 2 ^ (6 * sz n) : Nat) : Int)]) (ea_cons (ev_var rfl) ea_nil) (Nat.le_of_ble_eq_true rfl))) (Ev.r (ev_var rfl) g6) (by rw [List.length_map, cs_len, rest_len]; show 1 + _ ≤ _; omega)) (by unfold form; rfl)) fun p H7 hp e7 g7 => k p H7 (fresh_back (ex4.trans (e5.trans e6)) hp) (ex4.trans (e5.trans (e6.trans e7))) g7
def crcF (v : Nat) : Nat := if 256 ≤ v * 2 then (v * 2 - 256) ^^^ 7 else v * 2
def itF : Nat → Nat → Nat
  | 0, v => v
  | k + 1, v => crcF (itF k v)
theorem it8 : ∀ x, x < 256 → itF 8 x = nib 8 T8 (nib 8 T8 x) := by decide +kernel
theorem crcF_lt : ∀ x, x < 256 → crcF x < 256 := by decide +kernel
theorem itF_lt (x : Nat) (hx : x < 256) : ∀ k, itF k x < 256
  | 0 => hx
  | k + 1 => crcF_lt _ (itF_lt x hx k)
def sp_lcrc (K : PySem.W.Frag) : Sp := fun vs H Q _ => ∃ (p : Addr) (ds : List Nat), vs = [.ref p] ∧ SqL K H p ((cs ds).map V.int) ∧ (∀ d ∈ ds, d < 256) ∧ RetV (.int ((crcN 8 T8 0 ds : Nat) : Int)) H Q
theorem ok_law_crc (T : TX K mg) : FnOk P w K mg base CX0 1 T.a_law_crc T.d_law_crc ["data"] (sp_lcrc K) := by
  refine T.F_law_crc.ok sc_law_crc (fun vs H Q E h => by obtain ⟨p, ds, rfl, _⟩ := h; rfl) (fun cdv A outer s H vs Q E hr h => ?_)
  obtain ⟨p, ds, rfl, hS, hds, k⟩ := h
  refine ⟨_, (pss_cons (ps_set (i := 1) sc_law_crc.nd rfl (Or.inl rfl) pe_int)
      (pss_cons (ps_for PassesOwn.never rfl (pi_list (pv 0)) (pg_name (i := 2) sc_law_crc.nd rfl (Or.inl rfl)) (pss_cons (ps_set (i := 1) sc_law_crc.nd rfl (Or.inl rfl) (pe_op op_xor (pv 1) (pv 2)))
        (pss_one (ps_for PassesOwn.never rfl (pi_range1 (by rfl) T.m_range (pa_cons pe_int pa_nil)) (pg_name (i := 3) sc_law_crc.nd rfl (Or.inl rfl)) (pss_cons (ps_set (i := 1) sc_law_crc.nd rfl (Or.inl rfl) (pe_op op_mul (pv 1) pe_int))
          (pss_one (ps_if (pt_cmpR op_ge (pv 1) pe_int (nomark _)) (pss_one (ps_set (i := 1) sc_law_crc.nd rfl (Or.inl rfl) (pe_op op_xor (pe_op op_sub (pv 1) pe_int) pe_int))) pss_nil)))))))
      (pss_one (ps_ret (pv 1))))), ?_⟩
  have hlt : ∀ i, crcN 8 T8 0 (ds.take i) < 256 := fun i => (crcN_ok tab8 (ds.take i) 0 (by decide) fun d hd => hds d (List.mem_of_mem_take hd)).1
  refine q_asg (v := .int 0) ev_c fun H1 e1 => ?_
  refine q_forLn (K := K) (a := p) (ev_var rfl) (ex_l e1 hS) (fun i σ' H' => ∃ z2 z3 : Option V, σ' = [some (.ref p), some (.int ((crcN 8 T8 0 (ds.take i) : Nat) : Int)), z2, z3] ∧ Ex H H') (fun H2 e2 => ⟨none, none, rfl, e1.trans e2⟩) (fun i σ' H' _ h => by obtain ⟨_, _, _, e⟩ := h; exact ex_l e hS) ?_ ?_
  · rintro i x σ' H2 hx ⟨z2, z3, rfl, ex⟩
    obtain ⟨n0, hn0, hi, rfl⟩ := int_at hx
    rw [cs_len] at hi
    have hdi : ds[i]? = some ds[i] := List.getElem?_eq_getElem hi
    rw [cs_at hdi] at hn0
    obtain rfl := Option.some.inj hn0
    have hb : ds[i] < 256 := hds _ (List.getElem_mem hi)
    have hr0 := hlt i
    rw [show ds.take (i + 1) = ds.take i ++ [ds[i]] from by rw [List.take_add_one, hdi]; rfl, crcN_snoc]
    generalize crcN 8 T8 0 (ds.take i) = r at *
    generalize ds[i] = b at *
    have hx256 : r ^^^ b < 256 := Nat.xor_lt_two_pow (n := 8) hr0 hb
    refine q_asg (v := .int ((r ^^^ b : Nat) : Int)) (Ev.is (ev_I0 (g := fun i j => .int (Builtin.bitXor i j)) (ev_var rfl) (ev_var rfl)) (congrArg V.int (_root_.Bits.bitXor_pp (by omega) (by omega)))) fun H3 e3 => ?_
    refine s_forR1 (n := 8) (ea_cons ev_c ea_nil) (by omega) (fun j σ2 H4 => ∃ z3 : Option V, σ2 = [some (.ref p), some (.int ((itF j (r ^^^ b) : Nat) : Int)), some (.int (b : Int)), z3] ∧ Ex H H4) (fun H4 e4 => ⟨z3, rfl, ex.trans (e3.trans e4)⟩) ?_ ?_
    · rintro j σ2 H4 hj ⟨z3, rfl, ex4⟩
      have hv := itF_lt (r ^^^ b) hx256 j
      have hst : itF (j + 1) (r ^^^ b) = crcF (itF j (r ^^^ b)) := rfl
      rw [hst]
      generalize itF j (r ^^^ b) = v at *
      refine q_asg (v := .int ((v * 2 : Nat) : Int)) (Ev.is (ev_I (ev_var rfl) ev_c (.inr (by decide))) (congrArg V.int (by omega))) fun H5 e5 => ?_
      refine s_when (b := decide (256 ≤ v * 2)) (et_test (Ev.is (ev_I0 (g := fun i j => .bl (decide (j ≤ i))) (ev_var rfl) ev_c) (congrArg V.bl (decide_eq_decide.mpr (by omega))))) (fun hb H6 e6 => ?_) (fun hb H6 e6 => ?_)
      · have hb := of_decide_eq_true hb
        have hcf : crcF v = (v * 2 - 256) ^^^ 7 := by unfold crcF; rw [if_pos hb]
        rw [hcf]
        exact s_asg (v := .int (((v * 2 - 256) ^^^ 7 : Nat) : Int)) (Ev.is (ev_I0 (g := fun i j => .int (Builtin.bitXor i j)) (Ev.is (ev_I0 (g := fun i j => .int (i - j)) (ev_var rfl) ev_c) (congrArg V.int (show ((v * 2 : Nat) : Int) - 256 = ((v * 2 - 256 : Nat) : Int) by omega))) ev_c) (congrArg V.int (show Builtin.bitXor ((v * 2 - 256 : Nat) : Int) ((7 : Nat) : Int) = (((v * 2 - 256) ^^^ 7 : Nat) : Int) from _root_.Bits.bitXor_pp (by omega) (by omega)))) fun H7 e7 => ⟨_, rfl, ex4.trans (e5.trans (e6.trans e7))⟩
      · have hb := of_decide_eq_false hb
        have hcf : crcF v = v * 2 := by unfold crcF; rw [if_neg hb]
        rw [hcf]
        exact ⟨_, rfl, ex4.trans (e5.trans e6)⟩
    · rintro σ2 H4 ⟨z3, rfl, ex4⟩
      refine ⟨some (.int (b : Int)), z3, ?_, ex4⟩
      show [_, some (V.int ((itF 8 (r ^^^ b) : Nat) : Int)), _, _] = _
      rw [it8 _ hx256]
      have : stp 8 T8 r b = nib 8 T8 (nib 8 T8 (r ^^^ b)) := by unfold stp; rw [Nat.sub_self, Nat.pow_zero, Nat.mul_one]
      rw [this]
  · rintro σ' H2 ⟨z2, z3, rfl, ex⟩
    rw [List.length_map, cs_len, List.take_length]
    exact s_ret (ev_var rfl) fun H3 e3 => k H3 (ex.trans e3)
def cIdx (Tb : List Nat) (v : Nat) : Nat := if 0 < v ∧ v ∈ Tb then Tb.idxOf v else 0
def sp_lcode (K : PySem.W.Frag) : Sp := fun vs H Q _ => ∃ (p : Addr) (Tb : List Nat) (v : Nat), vs = [.ref p, .int (v : Int)] ∧ SqL K H p ((cs Tb).map V.int) ∧ Tb.length ≤ 100 ∧ Tb[0]? = some 0 ∧ RetV (.int ((cIdx Tb v : Nat) : Int)) H Q
theorem ok_law_code (T : TX K mg) : FnOk P w K mg base CX0 1 T.a_law_code T.d_law_code ["table", "value"] (sp_lcode K) := by
  refine T.F_law_code.ok sc_law_code (fun vs H Q E h => by obtain ⟨p, Tb, v, rfl, _⟩ := h; rfl) (fun cdv A outer s H vs Q E hr h => ?_)
  obtain ⟨p, Tb, v, rfl, hS, hl, h0, k⟩ := h
  refine ⟨_, (pss_cons (ps_for PassesOwn.never rfl (pi_range2 (by rfl) T.m_range (pa_cons pe_int (pa_cons (pe_callB (r := rLenS K) call_len_seq (by rfl) T.m_len PySem.boot_len (pa_cons (pv 0) pa_nil)) pa_nil))) (pg_name (i := 2) sc_law_code.nd rfl (Or.inl rfl)) (pss_one (ps_if (PW.pt (pw_and (pt_cmpR op_eq (pe_ix (r := rIxL K) ix_list (pv 0) (pv 2) (fun _ _ => rfl)) (pv 1) (nomark _)) (pw_and1 (pt_cmpR op_gt (pv 1) pe_int (nomark _))))) (pss_one (ps_ret (pv 2))) pss_nil)))
      (pss_one (ps_ret pe_int))), ?_⟩
  have hl1 : 1 ≤ Tb.length := by have := (List.getElem?_eq_some_iff.mp h0).1; omega
  refine q_forR2 (lo := 1) (n := (Tb.length : Int)) (ea_cons ev_c (ea_cons (Ev.is (ev_lenS (Ev.s (ev_var rfl) hS)) (by rw [List.length_map, cs_len])) ea_nil)) (by omega) (fun i σ' H' => ∃ z : Option V, σ' = [some (.ref p), some (.int (v : Int)), z] ∧ Ex H H' ∧ ∀ m, m < 1 + i → 0 < v → Tb[m]? ≠ some v) (fun H1 e1 => ⟨none, rfl, e1, fun m hm hv z => by rw [show m = 0 by omega, h0] at z; cases z; omega⟩) ?_ ?_
  · rintro i σ' H1 hi ⟨z, rfl, ex, hno⟩
    have hi : 1 + i < Tb.length := by omega
    have hx : Tb[1 + i]? = some Tb[1 + i] := List.getElem?_eq_getElem hi
    obtain ⟨x, hxe⟩ : ∃ x, Tb[1 + i] = x := ⟨_, rfl⟩
    rw [hxe] at hx
    refine s_when (b := decide (x = v ∧ 0 < v)) (et_is (et_and (a := decide (x = v)) (b := decide (0 < v)) (et_test (Ev.is (ev_eq (ev_at (n := 1 + (i : Int)) (Ev.s (ev_var rfl) (ex_l ex hS)) (ev_var rfl) (at_of (j := 1 + i) (by omega) (at_int (cs_at hx)))) (ev_var rfl) rfl) (congrArg V.bl (decide_eq_decide.mpr ⟨fun z => by have := V.int.inj z; omega, fun z => by rw [z]⟩)))) fun _ => et_test (Ev.is (ev_I0 (g := fun i j => .bl (decide (j < i))) (ev_var rfl) ev_c) (congrArg V.bl (decide_eq_decide.mpr (by omega))))) (by by_cases h1 : x = v <;> by_cases h2 : 0 < v <;> simp [h1, h2])) (fun hb H2 e2 => ?_) (fun hb H2 e2 => ?_)
    · obtain ⟨rfl, hv⟩ := of_decide_eq_true hb
      have hm : x ∈ Tb := List.mem_of_getElem? hx
      have hidx : Tb.idxOf x = 1 + i := by
        have h1 := (idx_of hm).1
        have h2 := (idx_of hm).2
        rcases Nat.lt_trichotomy (Tb.idxOf x) (1 + i) with h | h | h
        · exact absurd h1 (hno _ h hv)
        · exact h
        · exact absurd hx (h2 _ h)
      refine s_ret (v := .int ((1 + i : Nat) : Int)) (Ev.is (ev_var rfl) (congrArg V.int (by omega))) fun H3 e3 => ?_
      have := k H3 (ex.trans (e2.trans e3))
      unfold cIdx at this
      rwa [if_pos ⟨hv, hm⟩, hidx] at this
    · have hb := of_decide_eq_false hb
      refine ⟨_, rfl, ex.trans e2, fun m hm hv z => ?_⟩
      by_cases hmi : m < 1 + i
      · exact hno m hmi hv z
      · rw [show m = 1 + i by omega, hx] at z
        exact hb ⟨Option.some.inj z, hv⟩
  · rintro σ' H1 ⟨z, rfl, ex, hno⟩
    refine s_ret (v := .int 0) ev_c fun H2 e2 => ?_
    have := k H2 (ex.trans e2)
    unfold cIdx at this
    rwa [if_neg (fun hm => by
      have h1 := List.idxOf_lt_length_of_mem hm.2
      exact hno (Tb.idxOf v) (by omega) hm.1 (idx_of hm.2).1)] at this
def sp_near : Sp := fun vs H Q _ => ∃ (c : Int) (p : Addr) (tb : List Int) (most : Nat), vs = [.int c, .ref p, .int (most : Int)] ∧ H p = some (.lst (tb.map V.int)) ∧ 0 < tb.length ∧ tb.length ≤ 1000 ∧ ∀ (n : Nat) H', n ≤ most → Ex H H' → Q (.int (n : Int)) H'
theorem ok_law_near (T : TX K mg) : FnOk P w K mg base CX0 1 T.a_law_near T.d_law_near ["cell", "table", "most"] sp_near := by
  refine T.F_law_near.ok sc_law_near (fun vs H Q E h => by obtain ⟨c, p, tb, most, rfl, _⟩ := h; rfl) (fun cdv A outer s H vs Q E hr h => ?_)
  obtain ⟨c, p, tb, most, rfl, hp, hl0, hl, k⟩ := h
  refine ⟨_, (pss_cons (ps_if (pt_cmpR op_eq (pe_op op_mod (pv 0) pe_int) pe_int (nomark _)) (pss_one (ps_ret (pe_op op_mod (pe_op op_fdivW (pv 0) pe_int) (pe_op op_add (pv 2) pe_int)))) pss_nil)
      (pss_cons (ps_set (i := 3) sc_law_near.nd rfl (Or.inl rfl) (pe_op op_sub (pe_op op_add (pe_ix (r := rIxL K) ix_list (pv 1) (pe_op op_mod (pe_op op_fdivW (pv 0) pe_int) (pe_callB (r := rLenS K) call_len_seq (by rfl) T.m_len PySem.boot_len (pa_cons (pv 1) pa_nil))) (fun _ _ => rfl)) (pe_op op_mod (pe_op op_fdivW (pe_op op_fdivW (pv 0) pe_int) (pe_callB (r := rLenS K) call_len_seq (by rfl) T.m_len PySem.boot_len (pa_cons (pv 1) pa_nil))) pe_int)) pe_int))
      (pss_one (ps_ret (pe_callB (call_max2 rfl) (by rfl) T.m_max PyProof.Rows.boot_max (pa_cons pe_int (pa_cons (pe_callB (call_min2 rfl) (by rfl) T.m_min PyProof.Rows.boot_min (pa_cons (pv 2) (pa_cons (pv 3) pa_nil))) pa_nil))))))), ?_⟩
  have two : CDivW c 2 := ⟨by decide, by decide⟩
  refine q_when (et_test (ev_eq (ev_I (ev_var rfl) ev_c (by decide)) ev_c rfl)) (fun _ H1 e1 => ?_) (fun _ H1 e1 => ?_)
  · obtain ⟨n, hn⟩ : ∃ n : Nat, c / 2 % ((most : Int) + 1) = (n : Int) := ⟨(c / 2 % ((most : Int) + 1)).toNat, by have := Int.emod_nonneg (c / 2) (show (most : Int) + 1 ≠ 0 by omega); omega⟩
    have hn2 : n ≤ most := by have := Int.emod_lt_of_pos (c / 2) (show (0 : Int) < (most : Int) + 1 by omega); omega
    exact s_ret (v := .int (n : Int)) (Ev.is (ev_I (ev_I (ev_var rfl) ev_c two) (ev_I0 (g := fun i j => .int (i + j)) (ev_var rfl) ev_c) (by show (0 : Int) < _; omega)) (congrArg V.int hn)) fun H2 e2 => k n H2 hn2 (e1.trans e2)
  · have len : ∀ {H' : Hp}, Ex H H' → Ev (tCB (rLenS K) (tCons (tVar 1) tNil)) [some (.int c), some (.ref p), some (.int (most : Int)), none] H' (.int (tb.length : Int)) := fun e => Ev.is (ev_lenS (Ev.s (ev_var rfl) (sq_of (e _ _ hp)))) (by rw [List.length_map])
    obtain ⟨i, hi⟩ : ∃ i : Nat, c / 2 % (tb.length : Int) = (i : Int) := ⟨(c / 2 % (tb.length : Int)).toNat, by have := Int.emod_nonneg (c / 2) (show (tb.length : Int) ≠ 0 by omega); omega⟩
    have hi2 : i < tb.length := by have := Int.emod_lt_of_pos (c / 2) (show (0 : Int) < (tb.length : Int) by omega); omega
    have hlog : ((tb.length : Int)).natAbs.log2 < 9000 := by
      rw [Int.natAbs_natCast]
      have := (Nat.log2_lt (n := tb.length) (k := 11) (by omega)).mpr (by omega)
      omega
    obtain ⟨val, hval⟩ : ∃ val, tb[i] + c / 2 / (tb.length : Int) % 3 - 1 = val := ⟨_, rfl⟩
    refine q_asg (v := .int val) (Ev.is (ev_I0 (g := fun i j => .int (i - j)) (ev_I0 (g := fun i j => .int (i + j)) (ev_at (n := (i : Int)) (Ev.s (ev_var rfl) (sq_of (e1 _ _ hp))) (Ev.is (ev_I (ev_I (ev_var rfl) ev_c two) (len e1) (by show (0 : Int) < _; omega)) (congrArg V.int hi)) (at_of (j := i) rfl (at_int (List.getElem?_eq_getElem hi2)))) (ev_I (ev_I (ev_I (ev_var rfl) ev_c two) (len e1) ⟨by omega, hlog⟩) ev_c (by decide))) ev_c) (congrArg V.int hval)) fun H2 e2 => ?_
    obtain ⟨n, hn⟩ : ∃ n : Nat, (if (if val < (most : Int) then val else (most : Int)) > 0 then (if val < (most : Int) then val else (most : Int)) else 0) = (n : Int) ∧ n ≤ most := by
      by_cases h1 : val < (most : Int)
      · rw [if_pos h1]
        by_cases h2 : val > 0
        · rw [if_pos h2]; exact ⟨val.toNat, by omega, by omega⟩
        · rw [if_neg h2]; exact ⟨0, rfl, by omega⟩
      · rw [if_neg h1]
        by_cases h2 : (most : Int) > 0
        · rw [if_pos h2]; exact ⟨most, rfl, Nat.le_refl _⟩
        · rw [if_neg h2]; exact ⟨0, rfl, by omega⟩
    exact s_ret (v := .int (n : Int)) (Ev.is (ev_max2 ev_c (ev_min2 (ev_var rfl) (ev_var rfl))) (congrArg V.int hn.1)) fun H3 e3 => k n H3 hn.2 (e1.trans (e2.trans e3))
def PairB (H : Hp) (t : Addr) (c : Nat) (l : List Nat) : Prop := ∃ p, H t = some (.tup [.int (c : Int), .ref p]) ∧ H p = some (.lst ((cs l).map V.int))
theorem PairB.ex {H H' : Hp} {t : Addr} {c : Nat} {l : List Nat} (h : PairB H t c l) (e : Ex H H') : PairB H' t c l := by obtain ⟨p, h1, h2⟩ := h; exact ⟨p, e _ _ h1, e _ _ h2⟩
theorem s_retPair {σ : L2.St} {H : Hp} {t1 t2 : TE} {D : Ends} {c : Nat} {l : List Nat} (h1 : Ev t1 σ H (.int (c : Int))) (h2 : EvL t2 σ H ((cs l).map V.int)) (k : ∀ t H1, Ex H H1 → PairB H1 t c l → D.rt (.ref t) H1) : tRet (tTup (tCons t1 (tCons t2 tNil))) D σ H :=
  h1 H (Ex.refl _) _ fun H1 e1 => h2 H1 e1 _ fun p H2 hp e2 g2 => ⟨sz_of (show 2 ≤ 100000 by decide), fun t ht => k t _ (e1.trans (e2.trans (Ex.new ht))) ⟨p, upd_same, (Ex.new ht) _ _ g2⟩⟩
def sp_lsf : Sp := fun vs H Q _ => ∃ s : Nat, vs = [.int (s : Int)] ∧ 1 ≤ s ∧ s ≤ 65535 ∧ ∀ t H', Ex H H' → PairB H' t (szC s) (szB s) → Q (.ref t) H'
theorem idx_pos {Tb : List Nat} {v : Nat} (h0 : Tb[0]? = some 0) (hv : 0 < v) (hm : v ∈ Tb) : 0 < Tb.idxOf v := by
  have := (idx_of hm).1
  cases h : Tb.idxOf v with
  | zero => rw [h, h0] at this; cases this; omega
  | succ n => omega
theorem ok_law_size_form (T : TX K mg) : FnOk P w K mg base CX0 2 T.a_law_size_form T.d_law_size_form ["size"] sp_lsf := by
  refine T.F_law_size_form.ok sc_law_size_form (fun vs H Q E h => by obtain ⟨v, rfl, _⟩ := h; rfl) (fun cdv A outer s0 H vs Q E hr h => ?_)
  obtain ⟨s, rfl, h1, h2, k⟩ := h
  refine ⟨_, (pss_cons (ps_set (i := 1) sc_law_size_form.nd rfl (Or.inl rfl) (pe_lst (pa_cons pe_int (pa_cons pe_int (pa_cons pe_int (pa_cons pe_int (pa_cons pe_int (pa_cons pe_int (pa_cons pe_int (pa_cons pe_int (pa_cons pe_int (pa_cons pe_int (pa_cons pe_int (pa_cons pe_int (pa_cons pe_int (pa_cons pe_int (pa_cons pe_int (pa_cons pe_int pa_nil))))))))))))))))))
      (pss_cons (ps_set (i := 2) sc_law_size_form.nd rfl (Or.inl rfl) (pe_call (ok_law_code T) (hr.mono (by decide)) (by rfl) T.g_law_code T.F_law_code.kp T.b_law_code .nil pass0 (pa_cons (pv 1) (pa_cons (pv 0) pa_nil))))
      (pss_cons (ps_if (pt_cmpR op_gt (pv 2) pe_int (nomark _)) (pss_one (ps_ret (pe_tup (pa_cons (pv 2) (pa_cons (pe_lst pa_nil) pa_nil))))) pss_nil)
      (pss_cons (ps_if (pt_cmpR op_le (pv 0) pe_int (nomark _)) (pss_one (ps_ret (pe_tup (pa_cons pe_int (pa_cons (pe_lst (pa_cons (pe_op op_sub (pv 0) pe_int) pa_nil)) pa_nil))))) pss_nil)
      (pss_one (ps_ret (pe_tup (pa_cons pe_int (pa_cons (pe_lst (pa_cons (pe_op op_fdiv (pe_op op_sub (pv 0) pe_int) pe_int) (pa_cons (pe_op op_mod (pe_op op_sub (pv 0) pe_int) pe_int) pa_nil))) pa_nil))))))))), ?_⟩
  refine q_asgL (xs := (cs bsT).map V.int) (EvL.is (el_lst (by walk_at "ea") (by decide)) rfl) fun p H1 hp e1 g1 => ?_
  refine q_asg (v := .int ((cIdx bsT s : Nat) : Int)) (ev_call (ea_cons (ev_var rfl) (ea_cons (ev_var rfl) ea_nil)) fun G e Q q _ => ⟨p, bsT, s, rfl, sq_of (e _ _ g1), by decide, rfl, q⟩) fun H2 e2 => ?_
  have e12 := e1.trans e2
  by_cases hm : 0 < s ∧ s ∈ bsT
  · have hc : cIdx bsT s = szC s := by unfold cIdx szC; rw [if_pos hm, if_pos hm]
    have hi : szC s = bsT.idxOf s := by unfold szC; rw [if_pos hm]
    have hpos : 0 < szC s := by rw [hi]; exact idx_pos rfl hm.1 hm.2
    have hb : szB s = [] := by
      have h6 : szC s ≠ 6 := by rw [hi]; exact idx_ne hm.2 (by intro z; have := Option.some.inj (show some 0 = some s from z); omega)
      have h7 : szC s ≠ 7 := by rw [hi]; exact idx_ne hm.2 (by intro z; have := Option.some.inj (show some 0 = some s from z); omega)
      unfold szB
      rw [if_neg h6, if_neg h7]
    rw [hc]
    refine q_when (b := true) (et_is (et_test (ev_I0 (g := fun i j => .bl (decide (j < i))) (ev_var rfl) ev_c)) (decide_eq_true (by omega))) (fun _ H3 e3 => ?_) (fun hb => by cases hb)
    exact s_retPair (l := []) (ev_var rfl) (el_lst ea_nil (by decide)) fun t H4 e4 hP => k t H4 (e12.trans (e3.trans e4)) (by rw [hb]; exact hP)
  · have hc : cIdx bsT s = 0 := by unfold cIdx; rw [if_neg hm]
    rw [hc]
    refine q_when (b := false) (et_is (et_test (ev_I0 (g := fun i j => .bl (decide (j < i))) (ev_var rfl) ev_c)) (decide_eq_false (by omega))) (fun hb => by cases hb) fun _ H3 e3 => ?_
    have hz : szC s = if s ≤ 256 then 6 else 7 := by unfold szC; rw [if_neg hm]
    refine q_when (b := decide (s ≤ 256)) (et_test (Ev.is (ev_I0 (g := fun i j => .bl (decide (i ≤ j))) (ev_var rfl) ev_c) (congrArg V.bl (decide_eq_decide.mpr (by omega))))) (fun hb H4 e4 => ?_) (fun hb H4 e4 => ?_)
    · rw [if_pos (of_decide_eq_true hb)] at hz
      have hB : szB s = [s - 1] := by unfold szB; rw [if_pos hz]
      exact s_retPair (c := 6) (l := [s - 1]) ev_c (EvL.is (el_lst (ea_cons (Ev.is (ev_I0 (g := fun i j => .int (i - j)) (ev_var rfl) ev_c) (congrArg V.int (show (s : Int) - 1 = ((s - 1 : Nat) : Int) by omega))) ea_nil) (Nat.le_of_ble_eq_true rfl)) rfl) fun t H5 e5 hP => k t H5 (e12.trans (e3.trans (e4.trans e5))) (by rw [hz, hB]; exact hP)
    · rw [if_neg (of_decide_eq_false hb)] at hz
      have hB : szB s = [(s - 1) / 256, (s - 1) % 256] := by unfold szB; rw [if_neg (by omega), if_pos hz]
      exact s_retPair (c := 7) (l := [(s - 1) / 256, (s - 1) % 256]) ev_c (EvL.is (el_lst (ea_cons (Ev.is (ev_I (ev_I0 (g := fun i j => .int (i - j)) (ev_var rfl) ev_c) ev_c ⟨by decide, by decide⟩) (congrArg V.int (show ((s : Int) - 1) / 256 = (((s - 1) / 256 : Nat) : Int) by omega))) (ea_cons (Ev.is (ev_I (ev_I0 (g := fun i j => .int (i - j)) (ev_var rfl) ev_c) ev_c (by decide)) (congrArg V.int (show ((s : Int) - 1) % 256 = (((s - 1) % 256 : Nat) : Int) by omega))) ea_nil)) (Nat.le_of_ble_eq_true rfl)) rfl) fun t H5 e5 hP => k t H5 (e12.trans (e3.trans (e4.trans e5))) (by rw [hz, hB]; exact hP)
def rt12 : List Nat := [0, 88200, 176400, 192000, 8000, 16000, 22050, 24000, 32000, 44100, 48000, 96000]
theorem rt_mem {r : Nat} (h : 0 < r) : (r ∈ rtT ↔ r ∈ rt12) ∧ (r ∈ rt12 → rtT.idxOf r = rt12.idxOf r) := by
  have e : rtT = rt12 ++ [0, 0, 0, 0] := rfl
  refine ⟨⟨fun hm => ?_, fun hm => by rw [e]; exact List.mem_append_left _ hm⟩, fun hm => ?_⟩
  · rw [e] at hm
    rcases List.mem_append.mp hm with h2 | h2
    · exact h2
    · simp at h2
      omega
  · have h1 := idx_of hm
    have hlt := List.idxOf_lt_length_of_mem hm
    have hm2 : r ∈ rtT := by rw [e]; exact List.mem_append_left _ hm
    have h2 := idx_of hm2
    have g1 : rtT[rt12.idxOf r]? = some r := by rw [e, List.getElem?_append_left hlt]; exact h1.1
    rcases Nat.lt_trichotomy (rtT.idxOf r) (rt12.idxOf r) with l | l | l
    · have g2 := h2.1
      rw [e, List.getElem?_append_left (by rw [← e]; omega)] at g2
      exact absurd g2 (by rw [← e]; exact h1.2 _ l)
    · exact l
    · exact absurd g1 (h2.2 _ l)
def sp_lrf : Sp := fun vs H Q _ => ∃ r : Nat, vs = [.int (r : Int)] ∧ ∀ t H', Ex H H' → PairB H' t (rtC r) (rtB r) → Q (.ref t) H'
theorem ok_law_rate_form (T : TX K mg) : FnOk P w K mg base CX0 2 T.a_law_rate_form T.d_law_rate_form ["hertz"] sp_lrf := by
  refine T.F_law_rate_form.ok sc_law_rate_form (fun vs H Q E h => by obtain ⟨v, rfl, _⟩ := h; rfl) (fun cdv A outer s0 H vs Q E hr h => ?_)
  obtain ⟨r, rfl, k⟩ := h
  refine ⟨_, (pss_cons (ps_set (i := 1) sc_law_rate_form.nd rfl (Or.inl rfl) (pe_lst (pa_cons pe_int (pa_cons pe_int (pa_cons pe_int (pa_cons pe_int (pa_cons pe_int (pa_cons pe_int (pa_cons pe_int (pa_cons pe_int (pa_cons pe_int (pa_cons pe_int (pa_cons pe_int (pa_cons pe_int pa_nil))))))))))))))
      (pss_cons (ps_set (i := 2) sc_law_rate_form.nd rfl (Or.inl rfl) (pe_call (ok_law_code T) (hr.mono (by decide)) (by rfl) T.g_law_code T.F_law_code.kp T.b_law_code .nil pass0 (pa_cons (pv 1) (pa_cons (pv 0) pa_nil))))
      (pss_cons (ps_if (PW.pt (pw_or (pt_cmpR op_gt (pv 2) pe_int (nomark _)) (pw_or1 (pt_cmpR op_eq (pv 0) pe_int (nomark _))))) (pss_one (ps_ret (pe_tup (pa_cons (pv 2) (pa_cons (pe_lst pa_nil) pa_nil))))) pss_nil)
      (pss_cons (ps_if (PW.pt (pw_and (pt_cmpR op_eq (pe_op op_mod (pv 0) pe_int) pe_int (nomark _)) (pw_and1 (pt_cmpR op_le (pv 0) pe_int (nomark _))))) (pss_one (ps_ret (pe_tup (pa_cons pe_int (pa_cons (pe_lst (pa_cons (pe_op op_fdiv (pv 0) pe_int) pa_nil)) pa_nil))))) pss_nil)
      (pss_cons (ps_if (pt_cmpR op_le (pv 0) pe_int (nomark _)) (pss_one (ps_ret (pe_tup (pa_cons pe_int (pa_cons (pe_lst (pa_cons (pe_op op_fdiv (pv 0) pe_int) (pa_cons (pe_op op_mod (pv 0) pe_int) pa_nil))) pa_nil))))) pss_nil)
      (pss_cons (ps_if (PW.pt (pw_and (pt_cmpR op_eq (pe_op op_mod (pv 0) pe_int) pe_int (nomark _)) (pw_and1 (pt_cmpR op_le (pv 0) pe_int (nomark _))))) (pss_one (ps_ret (pe_tup (pa_cons pe_int (pa_cons (pe_lst (pa_cons (pe_op op_fdiv (pe_op op_fdiv (pv 0) pe_int) pe_int) (pa_cons (pe_op op_mod (pe_op op_fdiv (pv 0) pe_int) pe_int) pa_nil))) pa_nil))))) pss_nil)
      (pss_one (ps_ret (pe_tup (pa_cons pe_int (pa_cons (pe_lst pa_nil) pa_nil))))))))))), ?_⟩
  refine q_asgL (xs := (cs rt12).map V.int) (EvL.is (el_lst (by walk_at "ea") (by decide)) rfl) fun p H1 hp e1 g1 => ?_
  refine q_asg (v := .int ((cIdx rt12 r : Nat) : Int)) (ev_call (ea_cons (ev_var rfl) (ea_cons (ev_var rfl) ea_nil)) fun G e Q q _ => ⟨p, rt12, r, rfl, sq_of (e _ _ g1), by decide, rfl, q⟩) fun H2 e2 => ?_
  have e12 := e1.trans e2
  have or2 : ∀ {H' : Hp} {σ : L2.St} (c : Nat) (b : Bool), σ[0]? = some (some (.int (r : Int))) → σ[2]? = some (some (.int (c : Int))) → decide (0 < c ∨ r = 0) = b → EvT (tOr (tTest (tOp (rI0 fun i j => .bl (decide (j < i))) (tVar 2) (tC (.int 0)))) (tTest (tOp rEq (tVar 0) (tC (.int 0))))) σ H' b := fun c b h1 h2 hb => et_is (et_or (a := decide (0 < c)) (b := decide (r = 0)) (et_test (Ev.is (ev_I0 (ev_var h2) ev_c) (congrArg V.bl (decide_eq_decide.mpr (by omega))))) fun _ => et_test (Ev.is (ev_eq (ev_var h1) ev_c rfl) (congrArg V.bl (decide_eq_decide.mpr ⟨fun z => by have := V.int.inj z; omega, fun z => by rw [z]; rfl⟩)))) (by rw [← hb]; by_cases h1 : 0 < c <;> by_cases h2 : r = 0 <;> simp [h1, h2])
  by_cases hr0 : r = 0
  · have hc : cIdx rt12 r = 0 := by unfold cIdx; rw [if_neg (by omega)]
    have hC : rtC r = 0 := by rw [hr0]; rfl
    have hB : rtB r = [] := by rw [hr0]; rfl
    rw [hc]
    refine q_when (or2 0 true rfl rfl (decide_eq_true (.inr hr0))) (fun _ H3 e3 => ?_) (fun hb => by cases hb)
    exact s_retPair (c := 0) (l := []) (ev_var rfl) (el_lst ea_nil (by decide)) fun t H4 e4 hP => k t H4 (e12.trans (e3.trans e4)) (by rw [hC, hB]; exact hP)
  have hpos : 0 < r := by omega
  obtain ⟨hm1, hm2⟩ := rt_mem hpos
  by_cases hm : r ∈ rt12
  · have hmT : 0 < r ∧ r ∈ rtT := ⟨hpos, hm1.mpr hm⟩
    have hc : cIdx rt12 r = rtC r := by unfold cIdx rtC; rw [if_pos ⟨hpos, hm⟩, if_pos hmT, hm2 hm]
    have hi : rtC r = rt12.idxOf r := by unfold rtC; rw [if_pos hmT, hm2 hm]
    have h0 : 0 < rtC r := by rw [hi]; exact idx_pos rfl hpos hm
    have hlt : rtC r < 12 := by rw [hi]; exact List.idxOf_lt_length_of_mem hm
    have hB : rtB r = [] := by unfold rtB; rw [if_neg (by omega), if_neg (by omega), if_neg (by omega)]
    rw [hc]
    refine q_when (or2 (rtC r) true rfl rfl (decide_eq_true (.inl h0))) (fun _ H3 e3 => ?_) (fun hb => by cases hb)
    exact s_retPair (l := []) (ev_var rfl) (el_lst ea_nil (by decide)) fun t H4 e4 hP => k t H4 (e12.trans (e3.trans e4)) (by rw [hB]; exact hP)
  · have hc : cIdx rt12 r = 0 := by unfold cIdx; rw [if_neg (fun z => hm z.2)]
    have hnT : ¬ (0 < r ∧ r ∈ rtT) := fun z => hm (hm1.mp z.2)
    rw [hc]
    refine q_when (or2 0 false rfl rfl (decide_eq_false (by omega))) (fun hb => by cases hb) fun _ H3 e3 => ?_
    have hz : rtC r = if 0 < r ∧ r % 1000 = 0 ∧ r ≤ 255000 then 12 else if 1 ≤ r ∧ r ≤ 65535 then 13 else if 0 < r ∧ r % 10 = 0 ∧ r ≤ 655350 then 14 else 0 := by unfold rtC; rw [if_neg hnT]
    have and2 : ∀ {H' : Hp} {σ : L2.St} (m l : Nat), σ[0]? = some (some (.int (r : Int))) → 0 < m → EvT (tAnd (tTest (tOp rEq (tOp (rI (fun _ j => 0 < j) fun i j => .int (i % j)) (tVar 0) (tC (.int (m : Int)))) (tC (.int 0)))) (tTest (tOp (rI0 fun i j => .bl (decide (i ≤ j))) (tVar 0) (tC (.int (l : Int)))))) σ H' (decide (0 < r ∧ r % m = 0 ∧ r ≤ l)) := fun m l h hm => et_is (et_and (a := decide (r % m = 0)) (b := decide (r ≤ l)) (et_test (Ev.is (ev_eq (ev_I (ev_var h) ev_c (by omega)) ev_c rfl) (congrArg V.bl (decide_eq_decide.mpr ⟨fun z => by have := V.int.inj z; omega, fun z => congrArg V.int (by omega)⟩)))) fun _ => et_test (Ev.is (ev_I0 (ev_var h) ev_c) (congrArg V.bl (decide_eq_decide.mpr (show (r : Int) ≤ (l : Int) ↔ r ≤ l by omega))))) (by by_cases h2 : r % m = 0 <;> by_cases h3 : r ≤ l <;> simp [hpos, h2, h3])
    refine q_when (and2 1000 255000 rfl (by decide)) (fun hb H4 e4 => ?_) (fun hb H4 e4 => ?_)
    · rw [if_pos (of_decide_eq_true hb)] at hz
      have hB : rtB r = [r / 1000] := by unfold rtB; rw [if_pos hz]
      exact s_retPair (c := 12) (l := [r / 1000]) ev_c (EvL.is (el_lst (ea_cons (Ev.is (ev_I (ev_var rfl) ev_c ⟨by decide, by decide⟩) (congrArg V.int (show (r : Int) / 1000 = ((r / 1000 : Nat) : Int) by omega))) ea_nil) (Nat.le_of_ble_eq_true rfl)) rfl) fun t H5 e5 hP => k t H5 (e12.trans (e3.trans (e4.trans e5))) (by rw [hz, hB]; exact hP)
    rw [if_neg (of_decide_eq_false hb)] at hz
    refine q_when (b := decide (r ≤ 65535)) (et_test (Ev.is (ev_I0 (g := fun i j => .bl (decide (i ≤ j))) (ev_var rfl) ev_c) (congrArg V.bl (decide_eq_decide.mpr (by omega))))) (fun hc2 H5 e5 => ?_) (fun hc2 H5 e5 => ?_)
    · have hc2 := of_decide_eq_true hc2
      rw [if_pos ⟨by omega, hc2⟩] at hz
      have hB : rtB r = [r / 256, r % 256] := by unfold rtB; rw [if_neg (by omega), if_pos hz]
      exact s_retPair (c := 13) (l := [r / 256, r % 256]) ev_c (EvL.is (el_lst (ea_cons (Ev.is (ev_I (ev_var rfl) ev_c ⟨by decide, by decide⟩) (congrArg V.int (show (r : Int) / 256 = ((r / 256 : Nat) : Int) by omega))) (ea_cons (Ev.is (ev_I (ev_var rfl) ev_c (by decide)) (congrArg V.int (show (r : Int) % 256 = ((r % 256 : Nat) : Int) by omega))) ea_nil)) (Nat.le_of_ble_eq_true rfl)) rfl) fun t H6 e6 hP => k t H6 (e12.trans (e3.trans (e4.trans (e5.trans e6)))) (by rw [hz, hB]; exact hP)
    have hc2 := of_decide_eq_false hc2
    rw [if_neg (by omega)] at hz
    refine q_when (and2 10 655350 rfl (by decide)) (fun hd H6 e6 => ?_) (fun hd H6 e6 => ?_)
    · rw [if_pos (of_decide_eq_true hd)] at hz
      have hB : rtB r = [r / 10 / 256, r / 10 % 256] := by unfold rtB; rw [if_neg (by omega), if_neg (by omega), if_pos hz]
      exact s_retPair (c := 14) (l := [r / 10 / 256, r / 10 % 256]) ev_c (EvL.is (el_lst (ea_cons (Ev.is (ev_I (ev_I (ev_var rfl) ev_c ⟨by decide, by decide⟩) ev_c ⟨by decide, by decide⟩) (congrArg V.int (show (r : Int) / 10 / 256 = ((r / 10 / 256 : Nat) : Int) by omega))) (ea_cons (Ev.is (ev_I (ev_I (ev_var rfl) ev_c ⟨by decide, by decide⟩) ev_c (by decide)) (congrArg V.int (show (r : Int) / 10 % 256 = ((r / 10 % 256 : Nat) : Int) by omega))) ea_nil)) (Nat.le_of_ble_eq_true rfl)) rfl) fun t H7 e7 hP => k t H7 (e12.trans (e3.trans (e4.trans (e5.trans (e6.trans e7))))) (by rw [hz, hB]; exact hP)
    · rw [if_neg (of_decide_eq_false hd)] at hz
      have hB : rtB r = [] := by unfold rtB; rw [if_neg (by omega), if_neg (by omega), if_neg (by omega)]
      exact s_retPair (c := 0) (l := []) ev_c (el_lst ea_nil (by decide)) fun t H7 e7 hP => k t H7 (e12.trans (e3.trans (e4.trans (e5.trans (e6.trans e7))))) (by rw [hz, hB]; exact hP)

def sp_ldue : Sp := fun vs H Q _ => ∃ h : Hd, vs = [.bl h.vr, .int (h.bz : Int), .int (h.rt : Int), .int (h.cc : Int), .int (h.dp : Int), .int (h.nm : Int)] ∧ okHd h ∧ RetL ((cs (hdA h)).map V.int) H Q
theorem dp_idx (d : Nat) : cIdx dpT d = dpC d := rfl
theorem ok_law_due (T : TX K mg) : FnOk P w K mg base CX0 3 T.a_law_due T.d_law_due ["varies", "size", "hertz", "code", "deep", "index"] sp_ldue := by
  refine T.F_law_due.ok sc_law_due (fun vs H Q E h => by obtain ⟨h, rfl, _⟩ := h; rfl) (fun cdv A outer s0 H vs Q E hr h => ?_)
  obtain ⟨h, rfl, ok, k⟩ := h
  refine ⟨_, (pss_cons (ps_set (i := 6) sc_law_due.nd rfl (Or.inl rfl) (pe_call (ok_law_size_form T) (hr.mono (by decide)) (by rfl) T.g_law_size_form T.F_law_size_form.kp T.b_law_size_form .nil pass0 (pa_cons (pv 1) pa_nil)))
      (pss_cons (ps_set (i := 7) sc_law_due.nd rfl (Or.inl rfl) (pe_call (ok_law_rate_form T) (hr.mono (by decide)) (by rfl) T.g_law_rate_form T.F_law_rate_form.kp T.b_law_rate_form .nil pass0 (pa_cons (pv 2) pa_nil)))
      (pss_cons (ps_set (i := 8) sc_law_due.nd rfl (Or.inl rfl) (pe_call (ok_law_code T) (hr.mono (by decide)) (by rfl) T.g_law_code T.F_law_code.kp T.b_law_code .nil pass0 (pa_cons (pe_lst (pa_cons pe_int (pa_cons pe_int (pa_cons pe_int (pa_cons pe_int (pa_cons pe_int (pa_cons pe_int (pa_cons pe_int (pa_cons pe_int pa_nil))))))))) (pa_cons (pv 4) pa_nil))))
      (pss_cons (ps_set (i := 9) sc_law_due.nd rfl (Or.inl rfl) (pe_lst (pa_cons pe_int (pa_cons (pe_op op_add pe_int (pe_callTy call_int1 (by rfl) T.m_int PyProof.Rows.boot_int (pa_cons (pv 0) pa_nil))) (pa_cons (pe_op op_add (pe_op op_mul pe_int (pe_ix (r := rIxT K) ix_tup (pv 6) pe_int (fun _ _ => rfl))) (pe_ix (r := rIxT K) ix_tup (pv 7) pe_int (fun _ _ => rfl))) (pa_cons (pe_op op_add (pe_op op_mul pe_int (pv 3)) (pe_op op_mul pe_int (pv 8))) pa_nil))))))
      (pss_cons (ps_set (i := 9) sc_law_due.nd rfl (Or.inl rfl) (pe_op op_cat (pe_op op_cat (pe_op op_cat (pv 9) (pe_call (ok_law_number T) (hr.mono (by decide)) (by rfl) T.g_law_number T.F_law_number.kp T.b_law_number .nil pass0 (pa_cons (pv 5) pa_nil))) (pe_ix (r := rIxT K) ix_tup (pv 6) pe_int (fun _ _ => rfl))) (pe_ix (r := rIxT K) ix_tup (pv 7) pe_int (fun _ _ => rfl))))
      (pss_one (ps_ret (pe_op op_cat (pv 9) (pe_lst (pa_cons (pe_call (ok_law_crc T) (hr.mono (by decide)) (by rfl) T.g_law_crc T.F_law_crc.kp T.b_law_crc .nil pass0 (pa_cons (pv 9) pa_nil)) pa_nil)))))))))), ?_⟩
  refine q_asgC (vs := [.int (h.bz : Int)]) (ea_cons (ev_var rfl) ea_nil) fun H1 e1 => ⟨h.bz, rfl, ok.b1, ok.b2, fun t1 H2 e2 P1 => ?_⟩
  refine q_asgC (vs := [.int (h.rt : Int)]) (ea_cons (ev_var rfl) ea_nil) fun H3 e3 => ⟨h.rt, rfl, fun t2 H4 e4 P2 => ?_⟩
  have e14 := e1.trans (e2.trans (e3.trans e4))
  refine q_asg (v := .int ((dpC h.dp : Nat) : Int)) (ev_callL2 (xs := (cs dpT).map V.int) (EvL.is (el_lst (by walk_at "ea") (by decide)) rfl) (ev_var rfl) fun p G e g Q E q => ⟨p, dpT, h.dp, rfl, sq_of g, by decide, rfl, q⟩) fun H5 e5 => ?_
  have P1' := P1.ex (e3.trans (e4.trans e5))
  have P2' := P2.ex e5
  have e15 := e14.trans e5
  obtain ⟨p1, ht1, hp1⟩ := P1'
  obtain ⟨p2, ht2, hp2⟩ := P2'
  refine q_asgL (xs := (cs (hd4B h)).map V.int) (EvL.is (el_lst (ea_cons ev_c (ea_cons (Ev.is (ev_I0 (g := fun i j => .int (i + j)) ev_c (ev_intB (ev_var rfl))) (congrArg V.int (show (248 : Int) + (if h.vr = true then 1 else 0) = ((248 + h.vr.toNat : Nat) : Int) by cases h.vr <;> rfl))) (ea_cons (Ev.is (ev_I0 (g := fun i j => .int (i + j)) (ev_I (j := ((szC h.bz : Nat) : Int)) ev_c (ev_atT (n := 0) (ev_var rfl) (st_of ht1) ev_c (at_of (j := 0) rfl rfl)) (.inl (by decide))) (ev_atT (n := 0) (v := .int ((rtC h.rt : Nat) : Int)) (ev_var rfl) (st_of ht2) ev_c (at_of (j := 0) rfl rfl))) (congrArg V.int (show 16 * ((szC h.bz : Nat) : Int) + ((rtC h.rt : Nat) : Int) = ((16 * szC h.bz + rtC h.rt : Nat) : Int) by omega))) (ea_cons (Ev.is (ev_I0 (g := fun i j => .int (i + j)) (ev_I ev_c (ev_var rfl) (.inl (by decide))) (ev_I ev_c (ev_var rfl) (.inl (by decide)))) (congrArg V.int (show 16 * (h.cc : Int) + 2 * ((dpC h.dp : Nat) : Int) = ((16 * h.cc + 2 * dpC h.dp : Nat) : Int) by omega))) ea_nil)))) (Nat.le_of_ble_eq_true rfl)) rfl) fun p3 H6 hp3 e6 g6 => ?_
  have hlB := hdB_len h
  have hB : hdB h = hd4B h ++ form h.nm ++ szB h.bz ++ rtB h.rt := by unfold hdB; simp only [List.append_assoc]
  have l1 := szB_len h.bz
  have l2 := rtB_len h.rt
  have l3 := sz_le h.nm
  have l4 : (hd4B h).length = 4 := rfl
  refine q_asgL (xs := (cs (hdB h)).map V.int) (EvL.is (el_cat (xs := (cs (hd4B h ++ form h.nm ++ szB h.bz)).map V.int) (EvL.r (EvL.is (el_cat (xs := (cs (hd4B h ++ form h.nm)).map V.int) (EvL.r (EvL.is (el_cat (Ev.r (ev_var rfl) g6) (EvL.r (el_form ok.n1 (ev_var rfl))) (by rw [List.length_map, List.length_map, cs_len, cs_len, form_len]; omega)) (by simp only [cs_append, List.map_append]))) (Ev.r (a := p1) (ev_atT (n := 1) (ev_var rfl) (st_of (e6 _ _ ht1)) ev_c (at_of (j := 1) rfl rfl)) (e6 _ _ hp1)) (by rw [List.length_map, List.length_map, cs_len, cs_len, List.length_append, form_len]; omega)) (by simp only [cs_append, List.map_append]))) (Ev.r (a := p2) (ev_atT (n := 1) (ev_var rfl) (st_of (e6 _ _ ht2)) ev_c (at_of (j := 1) rfl rfl)) (e6 _ _ hp2)) (by rw [List.length_map, List.length_map, cs_len, cs_len, List.length_append, List.length_append, form_len]; omega)) (by rw [hB]; simp only [cs_append, List.map_append])) fun p4 H7 hp4 e7 g7 => ?_
  refine s_retL (xs := (cs (hdA h)).map V.int) (EvL.is (el_cat (xs := (cs (hdB h)).map V.int) (ys := [.int ((crcN 8 T8 0 (hdB h) : Nat) : Int)]) (Ev.r (ev_var rfl) g7) (EvL.r (el_lst (ea_cons (ev_call (vs := [.ref p4]) (ea_cons (ev_var rfl) ea_nil) fun G e Q q _ => ⟨p4, hdB h, rfl, sq_of (e _ _ g7), hdB_lt ok, q⟩) ea_nil) (Nat.le_of_ble_eq_true rfl))) (by rw [List.length_map, cs_len]; show _ + 1 ≤ _; omega)) (by unfold hdA; rw [cs_append, List.map_append]; rfl)) fun p5 H8 hp5 e8 g8 => k p5 H8 (fresh_back (e15.trans (e6.trans e7)) hp5) (e15.trans (e6.trans (e7.trans e8))) g8

theorem q_forL' {σ : L2.St} {H : Hp} {D : Ends} {tu tz : TS} {tl : TE} {g : TG} {xs : List V} (h : EvL tl σ H xs) (k : ∀ p H1, H p = none → Ex H H1 → H1 p = some (.lst xs) → tSeq (tFor (iList K (tC (.ref p))) g tu) tz D σ H1) : tSeq (tFor (iList K tl) g tu) tz D σ H := h H (Ex.refl H) _ fun p H1 hp e g => k p H1 hp e g
theorem mk_r {C : Addr} {E : XK} {σ : L2.St} {H : Hp} {Q : VK} {t1 t2 : TE} {xs : List V} {n : Nat} (h1 : EvL t1 σ H xs) (h2 : Ev t2 σ H (.int (n : Int))) (hn : n ≤ 1000000) (k : ∀ a d H', H a = none → a ≠ d → H d = none → Ex H H' → H' d = some (.lst xs) → RdAt C H' a d (8 * n) → Q (.ref a) H') : tMake C (sp_rinit C) [] E (tCons t1 (tCons t2 tNil)) σ H Q :=
  h1 H (Ex.refl H) _ fun d H1 hd e1 g1 => h2 H1 e1 _ fun H2 e2 => fun x dx hx hdx hne => by
    have e12 := e1.trans e2
    have hxd : d ≠ x := fresh_ne hx (e2 _ _ g1)
    have hex : ∀ b o, H2 b = some o → upd (upd H2 dx (HO.own x)) x (HO.ins C dx []) b = some o := fun b o hb => by
      rw [upd_ne (fresh_ne hx hb), upd_ne (fresh_ne hdx hb)]
      exact hb
    refine ⟨x, dx, d, n, rfl, upd_same, hn, fun H' hF hR => ⟨rfl, k x d H' ?_ hxd.symm hd (fun b o hb => hF b o (fresh_ne hx (e12 _ _ hb)) (hex b o (e12 _ _ hb))) (hF d _ hxd (hex d _ (e2 _ _ g1))) hR⟩⟩
    cases h : H x with
    | none => rfl
    | some o => rw [e12 _ _ h] at hx; cases hx
theorem q_mk_r {C : Addr} {E : XK} {σ : L2.St} {H : Hp} {D : Ends} {tz : TS} {i : Nat} {t1 t2 : TE} {xs : List V} {n : Nat} (h1 : EvL t1 σ H xs) (h2 : Ev t2 σ H (.int (n : Int))) (hn : n ≤ 1000000) (k : ∀ a d H', H a = none → a ≠ d → H d = none → Ex H H' → H' d = some (.lst xs) → RdAt C H' a d (8 * n) → tz D (σ.set i (some (.ref a))) H') : tSeq (tAsg (tMake C (sp_rinit C) [] E (tCons t1 (tCons t2 tNil))) (gName i)) tz D σ H := mk_r (Q := fun x H' => tz D (σ.set i (some x)) H') h1 h2 hn k

theorem s_whenIx {σ : L2.St} {H : Hp} {sp : Sp} {dvs vs : List V} {E : XK} {tA : TA} {r r2 : R2} {ti tb : TE} {D : Ends} {tu tv : TS} (h : EvA tA σ H vs) (k : ∀ H1, Ex H H1 → sp (vs ++ dvs) H1 (fun x H2 => tIfS (tTest (tOp r2 (tOp r (tC x) ti) tb)) tu tv D σ H2) E) : tIfS (tTest (tOp r2 (tOp r (tCall sp dvs E tA) ti) tb)) tu tv D σ H := h H (Ex.refl H) _ fun H1 e => k H1 e
section
variable {σ : L2.St} {H : Hp} {i : Nat} {D : Ends} {tz : TS} {most : Nat} {t1 t2 t3 : TE} {E : XK} {c : Int} {p : Addr} {tb : List Int}
theorem q_asgNr (h1 : Ev t1 σ H (.int c)) (h2 : Ev t2 σ H (.ref p)) (h3 : Ev t3 σ H (.int (most : Int))) (hp : H p = some (.lst (tb.map V.int))) (hl0 : 0 < tb.length) (hl : tb.length ≤ 1000) (k : ∀ (n : Nat) H1, n ≤ most → Ex H H1 → tz D (σ.set i (some (.int (n : Int)))) H1) : tSeq (tAsg (tCall sp_near [] E (tCons t1 (tCons t2 (tCons t3 tNil)))) (gName i)) tz D σ H := (ea_cons h1 (ea_cons h2 (ea_cons h3 ea_nil)) : EvA (tCons t1 (tCons t2 (tCons t3 tNil))) σ H [.int c, .ref p, .int (most : Int)]) H (Ex.refl H) (fun vs H' => sp_near (vs ++ []) H' (fun x H2 => tz D (σ.set i (some x)) H2) E) fun H1 e1 => ⟨c, p, tb, most, rfl, e1 _ _ hp, hl0, hl, fun n H2 hn e2 => k n H2 hn (e1.trans e2)⟩
theorem q_asgMN (h1 : Ev t1 σ H (.int c)) (h2 : Ev t2 σ H (.ref p)) (h3 : Ev t3 σ H (.int (most : Int))) (hp : H p = some (.lst (tb.map V.int))) (hl0 : 0 < tb.length) (hl : tb.length ≤ 1000) (hm : 1 ≤ most) (k : ∀ (n : Nat) H1, 1 ≤ n → n ≤ most → Ex H H1 → tz D (σ.set i (some (.int (n : Int)))) H1) : tSeq (tAsg (tCB rMax2 (tCons (tC (.int 1)) (tCons (tCall sp_near [] E (tCons t1 (tCons t2 (tCons t3 tNil)))) tNil))) (gName i)) tz D σ H := (ea_cons h1 (ea_cons h2 (ea_cons h3 ea_nil)) : EvA (tCons t1 (tCons t2 (tCons t3 tNil))) σ H [.int c, .ref p, .int (most : Int)]) H (Ex.refl H) (fun vs H' => sp_near (vs ++ []) H' (fun x H2 => rMax2 [.int 1, x] H2 (fun y H3 => tz D (σ.set i (some y)) H3)) E) fun H1 e1 => ⟨c, p, tb, most, rfl, e1 _ _ hp, hl0, hl, fun n H2 hn e2 => ⟨1, (n : Int), rfl, by
  show tz D (σ.set i (some (.int (if (n : Int) > 1 then (n : Int) else 1)))) H2
  by_cases h : (n : Int) > 1
  · rw [if_pos h]; exact k n H2 (by omega) hn (e1.trans e2)
  · rw [if_neg h]; exact k 1 H2 (by omega) hm (e1.trans e2)⟩⟩
end
def sp_law (K : PySem.W.Frag) : Sp := fun vs H Q _ => ∃ (a : Addr) (ns : List Int), vs = [.ref a] ∧ SqL K H a (ns.map V.int) ∧ ns.length ≤ 63 ∧ ∀ H', Q (.bl true) H'
theorem ok_law (T : TX K mg) : FnOk P w K mg base CX0 7 T.a_law T.d_law ["script"] (sp_law K) := by
  refine T.F_law.ok sc_law (fun vs H Q E h => by obtain ⟨a, ns, rfl, _⟩ := h; rfl) (fun cdv A outer s H vs Q E hr h => ?_)
  obtain ⟨a, ns, rfl, hS, hlen, k⟩ := h
  refine ⟨_, (pss_cons (ps_set (i := 1) sc_law.nd rfl (Or.inl rfl) (pe_cmpR op_eq (pe_op op_mod (pe_call (ok_law_cell T) (hr.mono (by decide)) (by rfl) T.g_law_cell T.F_law_cell.kp T.b_law_cell .nil pass0 (pa_cons (pv 0) (pa_cons pe_int pa_nil))) pe_int) pe_int (nomark _)))
      (pss_cons (ps_set (i := 2) sc_law.nd rfl (Or.inl rfl) (pe_lst (pa_cons pe_int (pa_cons pe_int (pa_cons pe_int (pa_cons pe_int (pa_cons pe_int (pa_cons pe_int (pa_cons pe_int (pa_cons pe_int (pa_cons pe_int (pa_cons pe_int (pa_cons pe_int (pa_cons pe_int (pa_cons pe_int (pa_cons pe_int (pa_cons pe_int (pa_cons pe_int (pa_cons pe_int pa_nil)))))))))))))))))))
      (pss_cons (ps_set (i := 3) sc_law.nd rfl (Or.inl rfl) (pe_callB (call_max2 rfl) (by rfl) T.m_max PyProof.Rows.boot_max (pa_cons pe_int (pa_cons (pe_call (ok_law_near T) (hr.mono (by decide)) (by rfl) T.g_law_near T.F_law_near.kp T.b_law_near .nil pass0 (pa_cons (pe_call (ok_law_cell T) (hr.mono (by decide)) (by rfl) T.g_law_cell T.F_law_cell.kp T.b_law_cell .nil pass0 (pa_cons (pv 0) (pa_cons pe_int pa_nil))) (pa_cons (pv 2) (pa_cons pe_int pa_nil)))) pa_nil))))
      (pss_cons (ps_set (i := 4) sc_law.nd rfl (Or.inl rfl) (pe_lst (pa_cons pe_int (pa_cons pe_int (pa_cons pe_int (pa_cons pe_int (pa_cons pe_int (pa_cons pe_int (pa_cons pe_int (pa_cons pe_int (pa_cons pe_int (pa_cons pe_int (pa_cons pe_int (pa_cons pe_int (pa_cons pe_int (pa_cons pe_int pa_nil))))))))))))))))
      (pss_cons (ps_set (i := 4) sc_law.nd rfl (Or.inl rfl) (pe_op op_cat (pv 4) (pe_lst (pa_cons pe_int (pa_cons pe_int (pa_cons pe_int (pa_cons pe_int (pa_cons pe_int (pa_cons pe_int (pa_cons pe_int pa_nil))))))))))
      (pss_cons (ps_set (i := 5) sc_law.nd rfl (Or.inl rfl) (pe_call (ok_law_near T) (hr.mono (by decide)) (by rfl) T.g_law_near T.F_law_near.kp T.b_law_near .nil pass0 (pa_cons (pe_call (ok_law_cell T) (hr.mono (by decide)) (by rfl) T.g_law_cell T.F_law_cell.kp T.b_law_cell .nil pass0 (pa_cons (pv 0) (pa_cons pe_int pa_nil))) (pa_cons (pv 4) (pa_cons pe_int pa_nil)))))
      (pss_cons (ps_set (i := 6) sc_law.nd rfl (Or.inl rfl) (pe_op op_mod (pe_call (ok_law_cell T) (hr.mono (by decide)) (by rfl) T.g_law_cell T.F_law_cell.kp T.b_law_cell .nil pass0 (pa_cons (pv 0) (pa_cons pe_int pa_nil))) pe_int))
      (pss_cons (ps_set (i := 7) sc_law.nd rfl (Or.inl rfl) (pe_lst (pa_cons pe_str (pa_cons pe_str (pa_cons pe_str pa_nil)))))
      (pss_cons (ps_set (i := 8) sc_law.nd rfl (Or.inl rfl) pe_str)
      (pss_cons (ps_set (i := 9) sc_law.nd rfl (Or.inl rfl) (pe_op op_add (pv 6) pe_int))
      (pss_cut (ps_if (pt_cmpR op_gt (pv 6) pe_int (nomark _)) (pss_cons (ps_set (i := 8) sc_law.nd rfl (Or.inl rfl) (pe_ix (r := rIxL K) ix_list (pv 7) (pe_op op_sub (pv 6) pe_int) (fun _ _ => rfl)))
        (pss_one (ps_set (i := 9) sc_law.nd rfl (Or.inl rfl) pe_int))) pss_nil)
      (pss_cons (ps_set (i := 10) sc_law.nd rfl (Or.inl rfl) (pe_op op_add pe_int (pe_op op_mod (pe_call (ok_law_cell T) (hr.mono (by decide)) (by rfl) T.g_law_cell T.F_law_cell.kp T.b_law_cell .nil pass0 (pa_cons (pv 0) (pa_cons pe_int pa_nil))) pe_int)))
      (pss_cons (ps_set (i := 11) sc_law.nd rfl (Or.inl rfl) pe_int)
      (pss_cons (ps_if (pt_val (pv 1)) (pss_one (ps_set (i := 11) sc_law.nd rfl (Or.inl rfl) pe_int)) pss_nil)
      (pss_cons (ps_setLc (i := 12) (own := [("k", 23)]) (g := gName 23) (tt := tYes) rfl sc_law.nd rfl rfl (sw_true rfl rfl rfl (by decide +kernel)) (pi_range1 (by rfl) T.m_range (pa_cons pe_int pa_nil)) (blkOk_by (N := ["script", "varies", "sizes", "size", "rates", "hertz", "channel", "names", "way", "many", "deep", "most", "powers", "index", "header", "due", "data", "before", "after", "other_rate", "other_depth", "reader", "found", "k", "cell"]) (sc := defScope s_law) (by decide +kernel)) (fun _ _ _ _ _ => pg_name (i := 23) sc_law.nd rfl (Or.inl rfl)) (fun _ _ _ _ _ => pts_nil) (fun _ _ _ _ _ => (pe_op op_shl pe_int (pv 23))))
      (pss_cons (ps_set (i := 13) sc_law.nd rfl (Or.inl rfl) (pe_call (ok_law_near T) (hr.mono (by decide)) (by rfl) T.g_law_near T.F_law_near.kp T.b_law_near .nil pass0 (pa_cons (pe_call (ok_law_cell T) (hr.mono (by decide)) (by rfl) T.g_law_cell T.F_law_cell.kp T.b_law_cell .nil pass0 (pa_cons (pv 0) (pa_cons pe_int pa_nil))) (pa_cons (pv 12) (pa_cons (pv 11) pa_nil)))))
      (pss_cons (ps_set (i := 14) sc_law.nd rfl (Or.inl rfl) (pe_makeK0 T.M_FrameHeader (ok_FrameHeader_init T) (hr.mono (by decide)) (by rfl) T.g_FrameHeader T.k1_variable_block_size_rate_channels_assignment_depth_number_FrameHeader_init pass0 (pk_cons (pv 1) (pk_cons (pv 3) (pk_cons (pv 5) (pk_cons (pv 9) (pk_cons (pv 8) (pk_cons (pv 10) (pk_cons (pv 13) pk_nil)))))))))
      (pss_cons (ps_set (i := 15) sc_law.nd rfl (Or.inl rfl) (pe_call (ok_law_due T) (hr.mono (by decide)) (by rfl) T.g_law_due T.F_law_due.kp T.b_law_due .nil pass0 (pa_cons (pv 1) (pa_cons (pv 3) (pa_cons (pv 5) (pa_cons (pv 6) (pa_cons (pv 10) (pa_cons (pv 13) pa_nil))))))))
      (pss_cons (ps_set (i := 16) sc_law.nd rfl (Or.inl rfl) (pe_call (ok_write_header T) (hr.mono (by decide)) (by rfl) T.g_write_header T.F_write_header.kp T.b_write_header .nil pass0 (pa_cons (pv 14) pa_nil)))
      (pss_cons (ps_if (PW.pt (pw_or (pt_not (pt_val (pe_callB (r := rIsi K) call_isi (by rfl) T.m_isinstance PyProof.Rows.boot_isinstance (pa_cons (pv 16) (pa_cons (pe_bltn (v := V.ty "list") (by rfl) T.m_list PyProof.Rows.boot_list rfl) pa_nil))))) (pw_or (pt_cmpR (op_neD (hu64 hr)) (pv 16) (pv 15) (nomark _)) (pw_or1 (pt_cmpR op_ne (pe_call (ok_header_bytes T) (hr.mono (by decide)) (by rfl) T.g_header_bytes T.F_header_bytes.kp T.b_header_bytes .nil pass0 (pa_cons (pv 14) pa_nil)) (pe_callB (r := rLenS K) call_len_seq (by rfl) T.m_len PySem.boot_len (pa_cons (pv 15) pa_nil)) (nomark _)))))) (pss_one (ps_ret pe_bl)) pss_nil)
      (pss_cons (ps_setLc (i := 17) (own := [("cell", 24)]) (g := gName 24) (tt := tYes) rfl sc_law.nd rfl rfl (sw_true rfl rfl rfl (by decide +kernel)) (pi_list (pe_slice (r := rSlL K) sl_list (pv 0) (po_some pe_int) (po_some pe_int))) (blkOk_by (N := ["script", "varies", "sizes", "size", "rates", "hertz", "channel", "names", "way", "many", "deep", "most", "powers", "index", "header", "due", "data", "before", "after", "other_rate", "other_depth", "reader", "found", "k", "cell"]) (sc := defScope s_law) (by decide +kernel)) (fun _ _ _ _ _ => pg_name (i := 24) sc_law.nd rfl (Or.inl rfl)) (fun _ _ _ _ _ => pts_nil) (fun _ _ _ _ _ => (pe_op op_mod (pe_callTy call_int1 (by rfl) T.m_int PyProof.Rows.boot_int (pa_cons (pv 24) pa_nil)) pe_int)))
      (pss_cons (ps_setLc (i := 18) (own := [("cell", 24)]) (g := gName 24) (tt := tYes) rfl sc_law.nd rfl rfl (sw_true rfl rfl rfl (by decide +kernel)) (pi_list (pe_slice (r := rSlL K) sl_list (pv 0) (po_some pe_int) (po_some pe_int))) (blkOk_by (N := ["script", "varies", "sizes", "size", "rates", "hertz", "channel", "names", "way", "many", "deep", "most", "powers", "index", "header", "due", "data", "before", "after", "other_rate", "other_depth", "reader", "found", "k", "cell"]) (sc := defScope s_law) (by decide +kernel)) (fun _ _ _ _ _ => pg_name (i := 24) sc_law.nd rfl (Or.inl rfl)) (fun _ _ _ _ _ => pts_nil) (fun _ _ _ _ _ => (pe_op op_mod (pe_callTy call_int1 (by rfl) T.m_int PyProof.Rows.boot_int (pa_cons (pv 24) pa_nil)) pe_int)))
      (pss_cons (ps_set (i := 19) sc_law.nd rfl (Or.inl rfl) (pe_op op_mod (pe_call (ok_law_cell T) (hr.mono (by decide)) (by rfl) T.g_law_cell T.F_law_cell.kp T.b_law_cell .nil pass0 (pa_cons (pv 0) (pa_cons pe_int pa_nil))) pe_int))
      (pss_cons (ps_set (i := 20) sc_law.nd rfl (Or.inl rfl) (pe_op op_add pe_int (pe_op op_mod (pe_call (ok_law_cell T) (hr.mono (by decide)) (by rfl) T.g_law_cell T.F_law_cell.kp T.b_law_cell .nil pass0 (pa_cons (pv 0) (pa_cons pe_int pa_nil))) pe_int)))
      (pss_cut (ps_if (pt_cmpR op_eq (pe_ix (r := rIxT K) ix_tup (pe_call (ok_law_rate_form T) (hr.mono (by decide)) (by rfl) T.g_law_rate_form T.F_law_rate_form.kp T.b_law_rate_form .nil pass0 (pa_cons (pv 5) pa_nil)) pe_int (fun _ _ => rfl)) pe_int (nomark _)) (pss_one (ps_set (i := 19) sc_law.nd rfl (Or.inl rfl) (pv 5))) pss_nil)
      (pss_cons (ps_if (pt_cmpR op_eq (pe_call (ok_law_code T) (hr.mono (by decide)) (by rfl) T.g_law_code T.F_law_code.kp T.b_law_code .nil pass0 (pa_cons (pe_lst (pa_cons pe_int (pa_cons pe_int (pa_cons pe_int (pa_cons pe_int (pa_cons pe_int (pa_cons pe_int (pa_cons pe_int (pa_cons pe_int pa_nil))))))))) (pa_cons (pv 10) pa_nil))) pe_int (nomark _)) (pss_one (ps_set (i := 20) sc_law.nd rfl (Or.inl rfl) (pv 10))) pss_nil)
      (pss_cons (ps_set (i := 21) sc_law.nd rfl (Or.inl rfl) (pe_make T.M_BitReader (ok_BitReader_init T) (hr.mono (by decide)) (by rfl) T.g_BitReader T.b3_BitReader_init T.v3_BitReader_init pass0 (pa_cons (pe_op op_cat (pe_op op_cat (pv 17) (pv 15)) (pv 18)) (pa_cons (pe_callB (r := rLenS K) call_len_seq (by rfl) T.m_len PySem.boot_len (pa_cons (pv 17) pa_nil)) pa_nil))))
      (pss_cons (ps_set (i := 22) sc_law.nd rfl (Or.inl rfl) (pe_call (ok_read_header T) (hr.mono (by decide)) (by rfl) T.g_read_header T.F_read_header.kp T.b_read_header .nil pass0 (pa_cons (pv 21) (pa_cons (pv 19) (pa_cons (pv 20) pa_nil)))))
      (pss_cons (ps_if (PW.pt (pw_or (pt_not (pt_cmpR (op_eqO (ok_FrameHeader_eq T) T.me_FrameHeader_eq.at_ T.me_FrameHeader_eq.fn T.b_FrameHeader_eq pass0 (hr.mono (by decide))) (pv 22) (pv 14) (nomark _))) (pw_or1 (pt_cmpR op_ne (pe_meth0 (pv 21) T.cl_BitReader T.me_BitReader_byte_place (ok_BitReader_byte_place T) (hr.mono (by decide)) T.b_BitReader_byte_place .nil pass0) (pe_op op_add (pe_callB (r := rLenS K) call_len_seq (by rfl) T.m_len PySem.boot_len (pa_cons (pv 17) pa_nil)) (pe_callB (r := rLenS K) call_len_seq (by rfl) T.m_len PySem.boot_len (pa_cons (pv 15) pa_nil))) (nomark _))))) (pss_one (ps_ret pe_bl)) pss_nil)
      (pss_cons (ps_if (PW.pt (pw_or (pt_cmpR op_ne (pe_fld (pv 22) rfl) (pv 1) (nomark _)) (pw_or (pt_cmpR op_ne (pe_fld (pv 22) rfl) (pv 3) (nomark _)) (pw_or1 (pt_cmpR op_ne (pe_fld (pv 22) rfl) (pv 5) (nomark _)))))) (pss_one (ps_ret pe_bl)) pss_nil)
      (pss_cons (ps_if (PW.pt (pw_or (pt_cmpR op_ne (pe_fld (pv 22) rfl) (pv 9) (nomark _)) (pw_or1 (pt_cmpR op_ne (pe_fld (pv 22) rfl) (pv 8) (nomark _))))) (pss_one (ps_ret pe_bl)) pss_nil)
      (pss_one (ps_ret (pe_and (pe_cmpR op_eq (pe_fld (pv 22) rfl) (pv 10) (nomark _)) (pe_one (pe_cmpR op_eq (pe_fld (pv 22) rfl) (pv 13) (nomark _))))))))))))))))))))))))))))))))))))), ?_⟩
  have cell : ∀ (H' : Hp) (σ : L2.St) (E : XK) (i : Int), σ[0]? = some (some (.ref a)) → Ex H H' → 0 ≤ i → Ev (tCall (sp_cell K) [] E (tCons (tVar 0) (tCons (tC (.int i)) tNil))) σ H' (.int (cellI ns i)) := fun H' σ E i hσ e hi => ev_cell (ev_var hσ) (ex_l e hS) ev_c hi
  obtain ⟨vr, hvr⟩ : ∃ vr, decide (V.int (cellI ns 0 % 2) = V.int 1) = vr := ⟨_, rfl⟩
  refine q_asg (v := .bl vr) (Ev.is (ev_eq (ev_I (cell H _ _ 0 rfl (Ex.refl _) (by decide)) ev_c (by decide)) ev_c rfl) (congrArg V.bl hvr)) fun H1 e1 => ?_
  refine q_asgL (xs := ([1, 16, 192, 256, 257, 576, 1152, 2304, 4608, 512, 1024, 2048, 4096, 8192, 16384, 32768, 65534] : List Int).map V.int) (EvL.is (el_lst (by walk_at "ea") (by decide)) rfl) fun p2 H2 hp2 e2 g2 => ?_
  refine q_asgMN (most := 65535) (cell H2 _ _ 1 rfl (e1.trans e2) (by decide)) (ev_var rfl) ev_c g2 (by decide) (by decide) (by decide) fun bz H3 hb1 hb2 e3 => ?_
  have e13 := e1.trans (e2.trans e3)
  refine q_asgL (xs := ([8000, 16000, 22050, 24000, 32000, 44100, 48000, 88200, 96000, 176400, 192000, 1000, 255000, 256000] : List Int).map V.int) (EvL.is (el_lst (by walk_at "ea") (by decide)) rfl) fun p4 H4 hp4 e4 g4 => ?_
  refine q_asgL (xs := ([8000, 16000, 22050, 24000, 32000, 44100, 48000, 88200, 96000, 176400, 192000, 1000, 255000, 256000, 65535, 65530, 65540, 655350, 655360, 700000, 1048575] : List Int).map V.int) (EvL.is (el_cat (Ev.r (ev_var rfl) g4) (EvL.r (el_lst (by walk_at "ea") (by decide))) (by decide)) rfl) fun p5 H5 hp5 e5 g5 => ?_
  have e15 := e13.trans (e4.trans e5)
  show tSeq _ _ _ [some (.ref a), some (.bl vr), some (.ref p2), some (.int (bz : Int)), some (.ref p5), none, none, none, none, none, none, none, none, none, none, none, none, none, none, none, none, none, none, none, none] _
  refine q_asgNr (most := 1048575) (cell H5 _ _ 2 rfl e15 (by decide)) (ev_var rfl) ev_c g5 (by decide) (by decide) fun rt H6 hrt e6 => ?_
  have e16 := e15.trans e6
  obtain ⟨cc, hcc⟩ : ∃ cc : Nat, cellI ns 3 % 11 = (cc : Int) := ⟨(cellI ns 3 % 11).toNat, by omega⟩
  refine q_asg (v := .int (cc : Int)) (Ev.is (ev_I (cell H6 _ _ 3 rfl e16 (by decide)) ev_c (by decide)) (congrArg V.int hcc)) fun H7 e7 => ?_
  refine q_asgL (xs := stT.map V.str) (EvL.is (el_lst (ea_cons ev_c (ea_cons ev_c (ea_cons ev_c ea_nil))) (by decide)) rfl) fun p7 H8 hp7 e8 g8 => ?_
  refine q_asg (v := .str "independent") ev_c fun H9 e9 => ?_
  refine q_asg (v := .int ((cc + 1 : Nat) : Int)) (Ev.is (ev_I0 (g := fun i j => .int (i + j)) (ev_var rfl) ev_c) (congrArg V.int (by omega))) fun H10 e10 => ?_
  have e110 := e16.trans (e7.trans (e8.trans (e9.trans e10)))
  have g10 := (e9.trans e10) _ _ g8
  show tCut _ _ _ [some (.ref a), some (.bl vr), some (.ref p2), some (.int (bz : Int)), some (.ref p5), some (.int (rt : Int)), some (.int (cc : Int)), some (.ref p7), some (.str "independent"), some (.int ((cc + 1 : Nat) : Int)), none, none, none, none, none, none, none, none, none, none, none, none, none, none, none] _
  clear e1 e2 e3 e4 e5 e6 e7 e8 e9 e10 e13 e15 e16 g2 g4 g5 g8 hp2 hp4 hp5 hp7
  refine q_cut (M := fun σ' H' => ∃ (wy : Str) (ch : Nat), σ' = [some (.ref a), some (.bl vr), some (.ref p2), some (.int (bz : Int)), some (.ref p5), some (.int (rt : Int)), some (.int (cc : Int)), some (.ref p7), some (.str wy), some (.int (ch : Int)), none, none, none, none, none, none, none, none, none, none, none, none, none, none, none] ∧ Ex H H' ∧ ((cc < 8 ∧ wy = "independent" ∧ ch = cc + 1) ∨ (∃ i, i < 3 ∧ cc = 8 + i ∧ ch = 2 ∧ stT[i]? = some wy))) ?_ ?_
  · refine s_when (b := decide (7 < cc)) (et_test (Ev.is (ev_I0 (g := fun i j => .bl (decide (j < i))) (ev_var rfl) ev_c) (congrArg V.bl (decide_eq_decide.mpr (by omega))))) (fun hb H11 e11 => ?_) (fun hb H11 e11 => ?_)
    · have hb := of_decide_eq_true hb
      obtain ⟨i, hi⟩ : ∃ i, cc = 8 + i := ⟨cc - 8, by omega⟩
      have hi3 : i < 3 := by omega
      obtain ⟨wy, hwy⟩ : ∃ wy, stT[i]? = some wy := ⟨_, List.getElem?_eq_getElem hi3⟩
      refine q_asg (v := .str wy) (ev_at (n := (i : Int)) (Ev.s (ev_var rfl) (sq_of (e11 _ _ g10))) (Ev.is (ev_I0 (g := fun i j => .int (i - j)) (ev_var rfl) ev_c) (congrArg V.int (by omega))) (at_of (j := i) rfl (by rw [List.getElem?_map, hwy]; rfl))) fun H12 e12 => ?_
      exact s_asg (v := .int 2) ev_c fun H13 e13 => ⟨wy, 2, rfl, e110.trans (e11.trans (e12.trans e13)), .inr ⟨i, hi3, hi, rfl, hwy⟩⟩
    · have hb := of_decide_eq_false hb
      exact ⟨_, _, rfl, e110.trans e11, .inl ⟨by omega, rfl, rfl⟩⟩
  clear e110 g10
  rintro σ' H1 ⟨wy, ch, rfl, e1, hcw⟩
  obtain ⟨dp, hdp⟩ : ∃ dp : Nat, 4 + cellI ns 4 % 29 = (dp : Int) := ⟨(4 + cellI ns 4 % 29).toNat, by omega⟩
  refine q_asg (v := .int (dp : Int)) (Ev.is (ev_I0 (g := fun i j => .int (i + j)) ev_c (ev_I (cell H1 _ _ 4 rfl e1 (by decide)) ev_c (by decide))) (congrArg V.int hdp)) fun H2 e2 => ?_
  refine q_asg (v := .int 2147483647) ev_c fun H3 e3 => ?_
  obtain ⟨most, hmost⟩ : ∃ most : Nat, (if vr then 68719476735 else 2147483647) = most := ⟨_, rfl⟩
  refine q_ifAsg (b := vr) (v := .int (most : Int)) (et_B (ev_var rfl)) (fun hb => Ev.is ev_c (by rw [← hmost, if_pos hb]; rfl)) (fun hb => by rw [← hmost, if_neg (by rw [hb]; decide)]; rfl) fun H4 e4 => ?_
  have e14 := e1.trans (e2.trans (e3.trans e4))
  show tSeq _ _ _ [some (.ref a), some (.bl vr), some (.ref p2), some (.int (bz : Int)), some (.ref p5), some (.int (rt : Int)), some (.int (cc : Int)), some (.ref p7), some (.str wy), some (.int (ch : Int)), some (.int (dp : Int)), some (.int (most : Int)), none, none, none, none, none, none, none, none, none, none, none, none, none] _
  refine q_asgL (xs := (cs ((List.range 37).map fun k => 2 ^ k)).map V.int) (el_lcR _ (ea_cons ev_c ea_nil) (by decide) (by rw [List.length_map, cs_len, List.length_map, List.length_range]; rfl) (by rw [List.length_map, cs_len, List.length_map, List.length_range]; decide) (fun _ => rfl) fun i H5 e5 hi => ?_) fun p12 H5 hp12 e5 g5 => ?_
  · rw [List.length_map, cs_len, List.length_map, List.length_range] at hi
    exact ⟨_, at_int (cs_at (d := 2 ^ i) (by rw [List.getElem?_map, List.getElem?_range hi]; rfl)), Ev.is (ev_I ev_c (ev_var rfl) (show CPow 1 (i : Int) from ⟨by omega, by omega, by decide⟩)) (congrArg V.int (by rw [Int.toNat_natCast, Int.one_mul, pow_cast]))⟩
  have e15 := e14.trans e5
  refine q_asgNr (most := most) (cell H5 _ _ 5 rfl e15 (by decide)) (ev_var rfl) (ev_var rfl) g5 (by rw [cs_len, List.length_map, List.length_range]; decide) (by rw [cs_len, List.length_map, List.length_range]; decide) fun nm H6 hnm e6 => ?_
  have e16 := e15.trans e6
  have ok : okHd ⟨vr, bz, rt, ch, wy, dp, nm, cc⟩ := ⟨hb1, hb2, hrt, by show 4 ≤ dp; omega, by show dp ≤ 32; omega, by show nm < 2 ^ 36; cases vr <;> simp at hmost <;> omega, fun hv => by have hv : vr = false := hv; rw [hv] at hmost; show nm ≤ 2147483647; simp at hmost; omega, hcw⟩
  obtain ⟨h, hh⟩ : ∃ h : Hd, h = ⟨vr, bz, rt, ch, wy, dp, nm, cc⟩ := ⟨_, rfl⟩
  rw [← hh] at ok
  show tSeq _ _ _ [some (.ref a), some (.bl vr), some (.ref p2), some (.int (bz : Int)), some (.ref p5), some (.int (rt : Int)), some (.int (cc : Int)), some (.ref p7), some (.str wy), some (.int (ch : Int)), some (.int (dp : Int)), some (.int (most : Int)), some (.ref p12), some (.int (nm : Int)), none, none, none, none, none, none, none, none, none, none, none] _
  clear e2 e3 e4 e5 e6 e14 e15 e1 g5 hp12
  refine q_asgN (R := fun p H' => HAt T.C_FrameHeader H' p h) (en_makeK (vs := []) ea_nil (ea_cons (ev_var rfl) (ea_cons (ev_var rfl) (ea_cons (ev_var rfl) (ea_cons (ev_var rfl) (ea_cons (ev_var rfl) (ea_cons (ev_var rfl) (ea_cons (ev_var rfl) ea_nil))))))) rfl rfl fun a' dx G Q' E' eG hG k' => ⟨a', dx, _, _, _, _, _, _, _, rfl, hG, fun H' hF hA => k' H' hF ⟨dx, by rw [hh]; exact hA⟩⟩) fun ph H7 hph e7 hA7 => ?_
  refine q_asgL (xs := (cs (hdA h)).map V.int) (el_call (ea_cons (ev_var rfl) (ea_cons (ev_var rfl) (ea_cons (ev_var rfl) (ea_cons (ev_var rfl) (ea_cons (ev_var rfl) (ea_cons (ev_var rfl) ea_nil)))))) fun G e Q q _ => ⟨h, by rw [hh]; rfl, ok, q⟩) fun pd H8 hpd e8 gd => ?_
  refine q_asgL (xs := (cs (hdA h)).map V.int) (el_call (ea_cons (ev_var rfl) ea_nil) fun G e Q q _ => ⟨ph, h, rfl, hA7.mono (e8.trans e), ok, q⟩) fun pw H9 hpw e9 gw => ?_
  have e19 := e16.trans (e7.trans (e8.trans e9))
  have hA9 := hA7.mono (e8.trans e9)
  have gd9 := e9 _ _ gd
  show tSeq _ _ _ [some (.ref a), some (.bl vr), some (.ref p2), some (.int (bz : Int)), some (.ref p5), some (.int (rt : Int)), some (.int (cc : Int)), some (.ref p7), some (.str wy), some (.int (ch : Int)), some (.int (dp : Int)), some (.int (most : Int)), some (.ref p12), some (.int (nm : Int)), some (.ref ph), some (.ref pd), some (.ref pw), none, none, none, none, none, none, none, none] _
  clear e16 e7 e8 e9 hA7 gd hph hpd hpw
  have lend : ∀ {σ : L2.St} {G : Hp}, G pd = some (.lst ((cs (hdA h)).map V.int)) → σ[15]? = some (some (.ref pd)) → Ev (tCB (rLenS K) (tCons (tVar 15) tNil)) σ G (.int ((hdA h).length : Int)) := fun g z => Ev.is (ev_lenS (Ev.s (ev_var z) (sq_of g))) (by rw [List.length_map, cs_len])
  refine q_when (b := false) (et_is (et_or (a := false) (b := false) (et_is (et_not (et_B (ev_isiL (ev_var rfl) gw))) rfl) fun _ => et_or (a := false) (b := false) (et_is (et_test (ev_neI (ns := cs (hdA h)) (ms := cs (hdA h)) (Ev.s (ev_var rfl) (sq_of gw)) (Ev.s (ev_var rfl) (sq_of gd9)))) (by simp)) fun _ => et_is (et_test (ev_ne (ev_call (z := .int ((hdA h).length : Int)) (ea_cons (ev_var rfl) ea_nil) fun G e Q q _ => ⟨ph, h, rfl, hA9.mono e, ok, q⟩) (lend gd9 rfl) rfl)) (by rw [decide_eq_true rfl]; rfl)) rfl) (fun hb => by cases hb) fun _ H10 e10 => ?_
  have e110 := e19.trans e10
  obtain ⟨bf, hbf⟩ : ∃ bf : List Nat, ((ns.drop 6).take 3).map (fun x => (x % 256).toNat) = bf := ⟨_, rfl⟩
  obtain ⟨af, haf⟩ : ∃ af : List Nat, ((ns.drop 9).take 2).map (fun x => (x % 256).toNat) = af := ⟨_, rfl⟩
  have lcb : ∀ (i m : Nat) {G : Hp} {σ : L2.St} {lo hi : Int} {l : List Nat}, Ex H G → σ[0]? = some (some (.ref a)) → lo = (i : Int) → hi = ((i + m : Nat) : Int) → ((ns.drop i).take m).map (fun x => (x % 256).toNat) = l → (∀ x : V, wipe ((wipe σ [24]).set 24 (some x)) [24] = wipe σ [24]) → (∀ x : V, ((wipe σ [24]).set 24 (some x))[24]? = some (some x)) → m ≤ 100 → EvL (tLc (iList K (tSl (rSlL K) (tVar 0) (tPart (tC (.int lo))) (tPart (tC (.int hi))))) (gName 24) tYes (tOp (rI (fun _ j => 0 < j) fun i j => .int (i % j)) (tCB (fun xs H Q => (∃ i, xs = [V.int i] ∧ Q (V.int i) H) ∨ ∃ k, xs = [V.bl k] ∧ Q (V.int (if k = true then 1 else 0)) H) (tCons (tVar 24) tNil)) (tC (.int 256))) [24]) σ G ((cs l).map V.int) := fun i m G σ lo hi l e h0 hlo hhi hl hw hv hm => by
    have hll : l.length = ((ns.drop i).take m).length := by rw [← hl, List.length_map]
    have hlm : ((ns.drop i).take m).length ≤ m := by rw [List.length_take]; omega
    refine el_lcS _ (EvR.s (EvL.r (EvL.is (el_mid (ns := ns) (i := i) (j := i + m) (Ev.s (ev_var h0) (ex_l e hS)) (Ev.is ev_c (congrArg V.int hlo)) (Ev.is ev_c (congrArg V.int hhi))) (by rw [Nat.add_sub_cancel_left])))) (by rw [List.length_map, cs_len, List.length_map, hll]) (by rw [List.length_map, cs_len]; omega) hw fun j x G1 e1 hx => ?_
    obtain ⟨n, hn, hj, rfl⟩ := int_at hx
    exact ⟨_, at_int (cs_at (d := (n % 256).toNat) (by rw [← hl, List.getElem?_map, hn]; rfl)), Ev.is (ev_I (ev_int1 (ev_var (hv _))) ev_c (by decide)) (congrArg V.int (by omega))⟩
  refine q_asgL (lcb 6 3 e110 rfl rfl rfl hbf (fun _ => rfl) (fun _ => rfl) (by decide)) fun pb H11 hpb e11 gb => ?_
  refine q_asgL (lcb 9 2 (e110.trans e11) rfl rfl rfl haf (fun _ => rfl) (fun _ => rfl) (by decide)) fun pa H12 hpa e12 ga => ?_
  have hbl : bf.length ≤ 3 := by rw [← hbf, List.length_map, List.length_take]; omega
  have hal : af.length ≤ 2 := by rw [← haf, List.length_map, List.length_take]; omega
  have hb256 : ∀ b ∈ bf, b < 256 := fun b hb => by rw [← hbf] at hb; obtain ⟨x, _, rfl⟩ := List.mem_map.mp hb; omega
  have ha256 : ∀ b ∈ af, b < 256 := fun b hb => by rw [← haf] at hb; obtain ⟨x, _, rfl⟩ := List.mem_map.mp hb; omega
  have e112 := e110.trans (e11.trans e12)
  have hA12 := hA9.mono (e10.trans (e11.trans e12))
  have gd12 := (e10.trans (e11.trans e12)) _ _ gd9
  have gb12 := e12 _ _ gb
  show tSeq _ _ _ [some (.ref a), some (.bl vr), some (.ref p2), some (.int (bz : Int)), some (.ref p5), some (.int (rt : Int)), some (.int (cc : Int)), some (.ref p7), some (.str wy), some (.int (ch : Int)), some (.int (dp : Int)), some (.int (most : Int)), some (.ref p12), some (.int (nm : Int)), some (.ref ph), some (.ref pd), some (.ref pw), some (.ref pb), some (.ref pa), none, none, none, none, none, none] _
  clear e19 e10 e11 e12 e110 hA9 gd9 gb gw hpb hpa lcb
  obtain ⟨r0, hr0⟩ : ∃ r0 : Nat, cellI ns 11 % 1048576 = (r0 : Int) := ⟨(cellI ns 11 % 1048576).toNat, by omega⟩
  obtain ⟨d0, hd0⟩ : ∃ d0 : Nat, 4 + cellI ns 12 % 29 = (d0 : Int) := ⟨(4 + cellI ns 12 % 29).toNat, by omega⟩
  refine q_asg (v := .int (r0 : Int)) (Ev.is (ev_I (cell H12 _ _ 11 rfl e112 (by decide)) ev_c (by decide)) (congrArg V.int hr0)) fun H13 e13 => ?_
  refine q_asg (v := .int (d0 : Int)) (Ev.is (ev_I0 (g := fun i j => .int (i + j)) ev_c (ev_I (cell H13 _ _ 12 rfl (e112.trans e13) (by decide)) ev_c (by decide))) (congrArg V.int hd0)) fun H14 e14 => ?_
  have e1214 := e13.trans e14
  show tCut _ _ _ [some (.ref a), some (.bl vr), some (.ref p2), some (.int (bz : Int)), some (.ref p5), some (.int (rt : Int)), some (.int (cc : Int)), some (.ref p7), some (.str wy), some (.int (ch : Int)), some (.int (dp : Int)), some (.int (most : Int)), some (.ref p12), some (.int (nm : Int)), some (.ref ph), some (.ref pd), some (.ref pw), some (.ref pb), some (.ref pa), some (.int (r0 : Int)), some (.int (d0 : Int)), none, none, none, none] _
  refine q_cut (M := fun σ' H' => ∃ r1 : Nat, σ' = [some (.ref a), some (.bl vr), some (.ref p2), some (.int (bz : Int)), some (.ref p5), some (.int (rt : Int)), some (.int (cc : Int)), some (.ref p7), some (.str wy), some (.int (ch : Int)), some (.int (dp : Int)), some (.int (most : Int)), some (.ref p12), some (.int (nm : Int)), some (.ref ph), some (.ref pd), some (.ref pw), some (.ref pb), some (.ref pa), some (.int (r1 : Int)), some (.int (d0 : Int)), none, none, none, none] ∧ Ex H12 H' ∧ (rtC rt = 0 → r1 = rt)) ?_ ?_
  · refine s_whenIx (vs := [.int (rt : Int)]) (ea_cons (ev_var rfl) ea_nil) fun G1 f1 => ⟨rt, rfl, fun t G2 f2 P => ?_⟩
    obtain ⟨q, ht, _⟩ := P
    have f12 := e1214.trans (f1.trans f2)
    refine s_when (b := decide (rtC rt = 0)) (et_test (Ev.is (ev_eq (ev_atT (n := 0) (v := .int ((rtC rt : Nat) : Int)) ev_c (st_of ht) ev_c (at_of (j := 0) rfl rfl)) ev_c rfl) (congrArg V.bl (decide_eq_decide.mpr ⟨fun z => by have := V.int.inj z; omega, fun z => by rw [z]; rfl⟩)))) (fun hb G3 f3 => ?_) (fun hb G3 f3 => ?_)
    · exact s_asg (v := .int (rt : Int)) (ev_var rfl) fun G4 f4 => ⟨rt, rfl, f12.trans (f3.trans f4), fun _ => rfl⟩
    · exact ⟨r0, rfl, f12.trans f3, fun z => absurd z (of_decide_eq_false hb)⟩
  clear e1214 e13 e14
  rintro σ' H14 ⟨r1, rfl, e14, hr1⟩
  obtain ⟨d1, hd1⟩ : ∃ d1 : Nat, (if dpC dp = 0 then dp else d0) = d1 := ⟨_, rfl⟩
  refine q_ifAsg (b := decide (dpC dp = 0)) (v := .int (d1 : Int)) (et_test (Ev.is (ev_eq (x := .int ((dpC dp : Nat) : Int)) (ev_callL2 (xs := (cs dpT).map V.int) (EvL.is (el_lst (by walk_at "ea") (by decide)) rfl) (ev_var rfl) fun p G e g Q E q => ⟨p, dpT, dp, rfl, sq_of g, by decide, rfl, q⟩) ev_c rfl) (congrArg V.bl (decide_eq_decide.mpr ⟨fun z => by have := V.int.inj z; omega, fun z => by rw [z]; rfl⟩)))) (fun hb => Ev.is (ev_var rfl) (by rw [← hd1, if_pos (of_decide_eq_true hb)])) (fun hb => by rw [← hd1, if_neg (of_decide_eq_false hb)]; rfl) fun H15 e15 => ?_
  have hd1' : dpC dp = 0 → d1 = dp := fun z => by rw [← hd1, if_pos z]
  have e1215 := e14.trans e15
  have gb15 := e1215 _ _ gb12
  have gd15 := e1215 _ _ gd12
  have ga15 := e1215 _ _ ga
  show tSeq _ _ _ [some (.ref a), some (.bl vr), some (.ref p2), some (.int (bz : Int)), some (.ref p5), some (.int (rt : Int)), some (.int (cc : Int)), some (.ref p7), some (.str wy), some (.int (ch : Int)), some (.int (dp : Int)), some (.int (most : Int)), some (.ref p12), some (.int (nm : Int)), some (.ref ph), some (.ref pd), some (.ref pw), some (.ref pb), some (.ref pa), some (.int (r1 : Int)), some (.int (d1 : Int)), none, none, none, none] _
  have hAl : (hdA h).length ≤ 16 := by have := hdB_len h; unfold hdA; rw [List.length_append]; show _ + 1 ≤ _; omega
  have lenb : ∀ {σ : L2.St} {G : Hp}, G pb = some (.lst ((cs bf).map V.int)) → σ[17]? = some (some (.ref pb)) → Ev (tCB (rLenS K) (tCons (tVar 17) tNil)) σ G (.int (bf.length : Int)) := fun g z => Ev.is (ev_lenS (Ev.s (ev_var z) (sq_of g))) (by rw [List.length_map, cs_len])
  refine q_mk_r (C := T.C_BitReader) (xs := (cs (bf ++ (hdA h ++ af))).map V.int) (n := bf.length) (EvL.is (el_cat (xs := (cs (bf ++ hdA h)).map V.int) (EvL.r (EvL.is (el_cat (Ev.r (ev_var rfl) gb15) (Ev.r (ev_var rfl) gd15) (by rw [List.length_map, List.length_map, cs_len, cs_len]; omega)) (by simp only [cs_append, List.map_append]))) (Ev.r (ev_var rfl) ga15) (by rw [List.length_map, List.length_map, cs_len, cs_len, List.length_append]; omega)) (by simp only [cs_append, List.map_append, List.append_assoc])) (lenb gb15 rfl) (by omega) fun ra dd H16 hra nrd hdd e16 gdd hR16 => ?_
  have hA15 := hA12.mono e1215
  have hA16 := hA15.mono e16
  have gb16 := e16 _ _ gb15
  have gd16 := e16 _ _ gd15
  have hds : ∀ b ∈ bf ++ (hdA h ++ af), b < 256 := fun b hb => by
    rcases List.mem_append.mp hb with hb | hb
    · exact hb256 b hb
    · rcases List.mem_append.mp hb with hb | hb
      · exact hdA_lt ok b hb
      · exact ha256 b hb
  have hRD : RdD T.C_BitReader H16 ra dd (bf ++ (hdA h ++ af)) (8 * bf.length) := ⟨hR16, gdd, hds, by rw [List.length_append, List.length_append]; omega⟩
  have nph : ph ≠ ra := by obtain ⟨dx, g⟩ := hA15; rintro rfl; rw [g] at hra; cases hra
  have npb : pb ≠ ra := by rintro rfl; rw [gb15] at hra; cases hra
  have npd : pd ≠ ra := by rintro rfl; rw [gd15] at hra; cases hra
  clear hA12 hA15 gb15 gd15 ga15 gb12 gd12 ga e1215 e15 e14 hdd hra gdd hR16 lend e16
  have hrt' : h.rt = rt := by rw [hh]
  have hdp' : h.dp = dp := by rw [hh]
  refine q_asgC (vs := [.ref ra, .int (r1 : Int), .int (d1 : Int)]) (ea_cons (ev_var rfl) (ea_cons (ev_var rfl) (ea_cons (ev_var rfl) ea_nil))) fun H17 e17 => ⟨ra, dd, bf ++ (hdA h ++ af), bf.length, h, r1, d1, rfl, hRD.ex e17, ok, by rw [hrt']; exact hr1, by rw [hdp']; exact hd1', ⟨bf, af, rfl, rfl⟩, fun pf H18 hpf F18 hAf hR18 => ?_⟩
  obtain ⟨dxh, gh⟩ : HAt T.C_FrameHeader H18 ph h := by obtain ⟨dx, g⟩ := hA16; exact ⟨dx, F18 _ _ nph (e17 _ _ g)⟩
  obtain ⟨dxf, gf⟩ := id hAf
  have gb18 := F18 _ _ npb (e17 _ _ gb16)
  have gd18 := F18 _ _ npd (e17 _ _ gd16)
  show tSeq _ _ _ [some (.ref a), some (.bl vr), some (.ref p2), some (.int (bz : Int)), some (.ref p5), some (.int (rt : Int)), some (.int (cc : Int)), some (.ref p7), some (.str wy), some (.int (ch : Int)), some (.int (dp : Int)), some (.int (most : Int)), some (.ref p12), some (.int (nm : Int)), some (.ref ph), some (.ref pd), some (.ref pw), some (.ref pb), some (.ref pa), some (.int (r1 : Int)), some (.int (d1 : Int)), some (.ref ra), some (.ref pf), none, none] _
  refine q_when (b := false) (et_is (et_or (a := false) (b := false) (et_is (et_not (et_test (ev_eqO (ev_var rfl) gf (ev_var rfl) (T.ty_FrameHeader.ins T.cl_FrameHeader gh) T.nf_FrameHeader_FrameHeader (b := true) fun G e Q q E => ⟨pf, ph, h, rfl, hAf.mono e, ⟨dxh, e _ _ gh⟩, q⟩))) rfl) fun _ => et_is (et_test (ev_ne (ev_place (f := fun pos => ((pos / 8 : Nat) : Int)) (ev_var rfl) hR18.1 rfl) (Ev.is (ev_I0 (g := fun i j => .int (i + j)) (lenb gb18 rfl) (Ev.is (ev_lenS (Ev.s (ev_var rfl) (sq_of gd18))) (by rw [List.length_map, cs_len]))) (congrArg V.int (show (bf.length : Int) + ((hdA h).length : Int) = ((8 * (bf.length + (hdA h).length) / 8 : Nat) : Int) by omega))) rfl)) (by rw [decide_eq_true rfl]; rfl)) rfl) (fun hb => by cases hb) fun _ H19 e19 => ?_
  have g19 := e19 _ _ gf
  rw [hh] at g19
  have fne : ∀ {f : Str} {i : Nat} {v : V} {G : Hp} {σ : L2.St}, G pf = H19 pf → NoAttr K T.C_FrameHeader f → (fsH (.bl vr) (.int (bz : Int)) (.int (rt : Int)) (.int (ch : Int)) (.str wy) (.int (dp : Int)) (.int (nm : Int))).lookup f = some v → scal v v = true → σ[22]? = some (some (.ref pf)) → σ[i]? = some (some v) → EvT (tTest (tOp rNe (tFld K (tVar 22) f) (tVar i))) σ G false := fun hG n l s h22 hi => et_is (et_test (ev_ne (ev_fld T.cl_FrameHeader n (ev_var h22) (hG.trans g19) l) (ev_var hi) s)) (by rw [decide_eq_true rfl]; rfl)
  refine q_when (b := false) (et_is (et_or (a := false) (b := false) (fne rfl T.n_FrameHeader_variable rfl rfl rfl rfl) fun _ => et_or (a := false) (b := false) (fne rfl T.n_FrameHeader_block_size rfl rfl rfl rfl) fun _ => fne rfl T.n_FrameHeader_rate rfl rfl rfl rfl) rfl) (fun hb => by cases hb) fun _ H20 e20 => ?_
  have g20 : H20 pf = H19 pf := by rw [g19]; exact e20 _ _ g19
  refine q_when (b := false) (et_is (et_or (a := false) (b := false) (fne g20 T.n_FrameHeader_channels rfl rfl rfl rfl) fun _ => fne g20 T.n_FrameHeader_assignment rfl rfl rfl rfl) rfl) (fun hb => by cases hb) fun _ H21 e21 => ?_
  have g21 := e21 _ _ (g20.trans g19)
  exact s_ret (v := .bl true) (Ev.is (ev_andV (a := true) (b := true) (Ev.is (ev_eq (ev_fld T.cl_FrameHeader T.n_FrameHeader_depth (v := .int (dp : Int)) (ev_var rfl) g21 rfl) (ev_var rfl) rfl) (by rw [decide_eq_true rfl])) fun _ => Ev.is (ev_eq (ev_fld T.cl_FrameHeader T.n_FrameHeader_number (v := .int (nm : Int)) (ev_var rfl) g21 rfl) (ev_var rfl) rfl) (by rw [decide_eq_true rfl])) rfl) fun H22 e22 => k _

end
set_option maxHeartbeats 0 in
theorem all_mk {l : PySem.W.OpenLaw} {w : World} {K : PySem.W.Frag} {h : Heap} {mg : Str → Option Value} {fa : Addr} {f1 f2 f3 f4 f5 f6 f7 f8 f9 f10 f11 f12 f13 f14 f15 f16 f17 f18 f19 f20 f21 f22 f23 f24 f25 f26 f27 f28 f29 f30 f31 f32 f33 f34 f35 f36 f37 f38 f39 f40 f41 f42 f43 f44 f45 f46 f47 f48 f49 C_BitWriter C_BitReader C_FrameHeader C_MonochordError A_STEPS_8 A_BLOCK_SIZES A_RATES A_DEPTHS A_STEREO : Addr} (X : K.In h) (G : h.Ns mainGlobals mg) (hfa : mg "law" = some (.ref fa))
    {od1 an1 : Option Addr} {sl1 : Array (Option Value)} {oc1 dc1 pm1 cd1 ct1 : Value} {kV1 : Value} {od2 an2 : Option Addr} {sl2 : Array (Option Value)} {oc2 dc2 pm2 cd2 ct2 : Value} {kV2 : Value} {od3 an3 : Option Addr} {sl3 : Array (Option Value)} {oc3 dc3 pm3 cd3 ct3 : Value} {kV3 : Value} {od4 an4 : Option Addr} {sl4 : Array (Option Value)} {oc4 dc4 pm4 cd4 ct4 : Value} {kV4 : Value} {od5 an5 : Option Addr} {sl5 : Array (Option Value)} {oc5 dc5 pm5 cd5 ct5 : Value} {kV5 : Value} {DT5 : Addr} {du5_0 tc5 : Value} {td5 : Option Addr} {tn5 : Nat} {tsl5 : Array (Option Value)} {od6 an6 : Option Addr} {sl6 : Array (Option Value)} {oc6 dc6 pm6 cd6 ct6 : Value} {kV6 : Value} {od7 an7 : Option Addr} {sl7 : Array (Option Value)} {oc7 dc7 pm7 cd7 ct7 : Value} {kV7 : Value} {od8 an8 : Option Addr} {sl8 : Array (Option Value)} {oc8 dc8 pm8 cd8 ct8 : Value} {kV8 : Value} {od9 an9 : Option Addr} {sl9 : Array (Option Value)} {oc9 dc9 pm9 cd9 ct9 : Value} {kV9 : Value} {od10 an10 : Option Addr} {sl10 : Array (Option Value)} {oc10 dc10 pm10 cd10 ct10 : Value} {kV10 : Value} {od11 an11 : Option Addr} {sl11 : Array (Option Value)} {oc11 dc11 pm11 cd11 ct11 : Value} {kV11 : Value} {DT11 : Addr} {du11_0 tc11 : Value} {td11 : Option Addr} {tn11 : Nat} {tsl11 : Array (Option Value)} {od12 an12 : Option Addr} {sl12 : Array (Option Value)} {oc12 dc12 pm12 cd12 ct12 : Value} {kV12 : Value} {od13 an13 : Option Addr} {sl13 : Array (Option Value)} {oc13 dc13 pm13 cd13 ct13 : Value} {kV13 : Value} {od14 an14 : Option Addr} {sl14 : Array (Option Value)} {oc14 dc14 pm14 cd14 ct14 : Value} {kV14 : Value} {od15 an15 : Option Addr} {sl15 : Array (Option Value)} {oc15 dc15 pm15 cd15 ct15 : Value} {kV15 : Value} {od16 an16 : Option Addr} {sl16 : Array (Option Value)} {oc16 dc16 pm16 cd16 ct16 : Value} {kV16 : Value} {od17 an17 : Option Addr} {sl17 : Array (Option Value)} {oc17 dc17 pm17 cd17 ct17 : Value} {kV17 : Value} {od18 an18 : Option Addr} {sl18 : Array (Option Value)} {oc18 dc18 pm18 cd18 ct18 : Value} {kV18 : Value} {od19 an19 : Option Addr} {sl19 : Array (Option Value)} {oc19 dc19 pm19 cd19 ct19 : Value} {kV19 : Value} {od20 an20 : Option Addr} {sl20 : Array (Option Value)} {oc20 dc20 pm20 cd20 ct20 : Value} {kV20 : Value} {od21 an21 : Option Addr} {sl21 : Array (Option Value)} {oc21 dc21 pm21 cd21 ct21 : Value} {kV21 : Value} {od22 an22 : Option Addr} {sl22 : Array (Option Value)} {oc22 dc22 pm22 cd22 ct22 : Value} {kV22 : Value} {od23 an23 : Option Addr} {sl23 : Array (Option Value)} {oc23 dc23 pm23 cd23 ct23 : Value} {kV23 : Value} {od24 an24 : Option Addr} {sl24 : Array (Option Value)} {oc24 dc24 pm24 cd24 ct24 : Value} {kV24 : Value} {od25 an25 : Option Addr} {sl25 : Array (Option Value)} {oc25 dc25 pm25 cd25 ct25 : Value} {kV25 : Value} {od26 an26 : Option Addr} {sl26 : Array (Option Value)} {oc26 dc26 pm26 cd26 ct26 : Value} {kV26 : Value} {od27 an27 : Option Addr} {sl27 : Array (Option Value)} {oc27 dc27 pm27 cd27 ct27 : Value} {kV27 : Value} {od28 an28 : Option Addr} {sl28 : Array (Option Value)} {oc28 dc28 pm28 cd28 ct28 : Value} {kV28 : Value} {od29 an29 : Option Addr} {sl29 : Array (Option Value)} {oc29 dc29 pm29 cd29 ct29 : Value} {kV29 : Value} {od30 an30 : Option Addr} {sl30 : Array (Option Value)} {oc30 dc30 pm30 cd30 ct30 : Value} {kV30 : Value} {od31 an31 : Option Addr} {sl31 : Array (Option Value)} {oc31 dc31 pm31 cd31 ct31 : Value} {kV31 : Value} {od32 an32 : Option Addr} {sl32 : Array (Option Value)} {oc32 dc32 pm32 cd32 ct32 : Value} {kV32 : Value} {od33 an33 : Option Addr} {sl33 : Array (Option Value)} {oc33 dc33 pm33 cd33 ct33 : Value} {kV33 : Value} {od34 an34 : Option Addr} {sl34 : Array (Option Value)} {oc34 dc34 pm34 cd34 ct34 : Value} {kV34 : Value} {od35 an35 : Option Addr} {sl35 : Array (Option Value)} {oc35 dc35 pm35 cd35 ct35 : Value} {kV35 : Value} {od36 an36 : Option Addr} {sl36 : Array (Option Value)} {oc36 dc36 pm36 cd36 ct36 : Value} {kV36 : Value} {od37 an37 : Option Addr} {sl37 : Array (Option Value)} {oc37 dc37 pm37 cd37 ct37 : Value} {kV37 : Value} {od38 an38 : Option Addr} {sl38 : Array (Option Value)} {oc38 dc38 pm38 cd38 ct38 : Value} {kV38 : Value} {od39 an39 : Option Addr} {sl39 : Array (Option Value)} {oc39 dc39 pm39 cd39 ct39 : Value} {kV39 : Value} {od40 an40 : Option Addr} {sl40 : Array (Option Value)} {oc40 dc40 pm40 cd40 ct40 : Value} {kV40 : Value} {od41 an41 : Option Addr} {sl41 : Array (Option Value)} {oc41 dc41 pm41 cd41 ct41 : Value} {kV41 : Value} {od42 an42 : Option Addr} {sl42 : Array (Option Value)} {oc42 dc42 pm42 cd42 ct42 : Value} {kV42 : Value} {od43 an43 : Option Addr} {sl43 : Array (Option Value)} {oc43 dc43 pm43 cd43 ct43 : Value} {kV43 : Value} {od44 an44 : Option Addr} {sl44 : Array (Option Value)} {oc44 dc44 pm44 cd44 ct44 : Value} {kV44 : Value} {od45 an45 : Option Addr} {sl45 : Array (Option Value)} {oc45 dc45 pm45 cd45 ct45 : Value} {kV45 : Value} {od46 an46 : Option Addr} {sl46 : Array (Option Value)} {oc46 dc46 pm46 cd46 ct46 : Value} {kV46 : Value} {od47 an47 : Option Addr} {sl47 : Array (Option Value)} {oc47 dc47 pm47 cd47 ct47 : Value} {kV47 : Value} {od48 an48 : Option Addr} {sl48 : Array (Option Value)} {oc48 dc48 pm48 cd48 ct48 : Value} {kV48 : Value} {od49 an49 : Option Addr} {sl49 : Array (Option Value)} {oc49 dc49 pm49 cd49 ct49 : Value} {kV49 : Value} {wSTEPS_8_0 wSTEPS_8_1 wSTEPS_8_2 wSTEPS_8_3 wSTEPS_8_4 wSTEPS_8_5 wSTEPS_8_6 wSTEPS_8_7 wSTEPS_8_8 wSTEPS_8_9 wSTEPS_8_10 wSTEPS_8_11 wSTEPS_8_12 wSTEPS_8_13 wSTEPS_8_14 wSTEPS_8_15 : Value} {nxSTEPS_8 : Nat} {sxSTEPS_8 : Array (Option Value)} {u_SYNC_CODE : Value} {wBLOCK_SIZES_0 wBLOCK_SIZES_1 wBLOCK_SIZES_2 wBLOCK_SIZES_3 wBLOCK_SIZES_4 wBLOCK_SIZES_5 wBLOCK_SIZES_6 wBLOCK_SIZES_7 wBLOCK_SIZES_8 wBLOCK_SIZES_9 wBLOCK_SIZES_10 wBLOCK_SIZES_11 wBLOCK_SIZES_12 wBLOCK_SIZES_13 wBLOCK_SIZES_14 wBLOCK_SIZES_15 : Value} {nxBLOCK_SIZES : Nat} {sxBLOCK_SIZES : Array (Option Value)} {wRATES_0 wRATES_1 wRATES_2 wRATES_3 wRATES_4 wRATES_5 wRATES_6 wRATES_7 wRATES_8 wRATES_9 wRATES_10 wRATES_11 wRATES_12 wRATES_13 wRATES_14 wRATES_15 : Value} {nxRATES : Nat} {sxRATES : Array (Option Value)} {wDEPTHS_0 wDEPTHS_1 wDEPTHS_2 wDEPTHS_3 wDEPTHS_4 wDEPTHS_5 wDEPTHS_6 wDEPTHS_7 : Value} {nxDEPTHS : Nat} {sxDEPTHS : Array (Option Value)} {wSTEREO_0 wSTEREO_1 wSTEREO_2 : Value} {nxSTEREO : Nat} {sxSTEREO : Array (Option Value)} {u_MOST_BLOCK_SIZE : Value} {u_MOST_FRAMES : Value} {u_MOST_SAMPLES : Value}
    (a1 : PySem.W.findIn K (.ref C_BitWriter) "__init__" = some (some (.ref f1))) (i1 : PySem.W.isFn K (.ref f1) = true)
    (l1 : K.lookup f1 = some ⟨oc1, od1, .func (PySem.W.fnOf "__init__" "BitWriter.__init__" (defArgs s_BitWriter_init) (defBody s_BitWriter_init) (defScope s_BitWriter_init) .none kV1 dc1 pm1 an1 cd1 ct1), sl1⟩) (c1 : PySem.W.codeIn K cd1 "BitWriter.__init__" = true) (k1 : PySem.W.keepIn K (.ref f1) = true)
    (a2 : PySem.W.findIn K (.ref C_BitWriter) "write" = some (some (.ref f2))) (i2 : PySem.W.isFn K (.ref f2) = true)
    (l2 : K.lookup f2 = some ⟨oc2, od2, .func (PySem.W.fnOf "write" "BitWriter.write" (defArgs s_BitWriter_write) (defBody s_BitWriter_write) (defScope s_BitWriter_write) .none kV2 dc2 pm2 an2 cd2 ct2), sl2⟩) (c2 : PySem.W.codeIn K cd2 "BitWriter.write" = true) (k2 : PySem.W.keepIn K (.ref f2) = true)
    (a3 : PySem.W.findIn K (.ref C_BitWriter) "append_bytes" = some (some (.ref f3))) (i3 : PySem.W.isFn K (.ref f3) = true)
    (l3 : K.lookup f3 = some ⟨oc3, od3, .func (PySem.W.fnOf "append_bytes" "BitWriter.append_bytes" (defArgs s_BitWriter_append_bytes) (defBody s_BitWriter_append_bytes) (defScope s_BitWriter_append_bytes) .none kV3 dc3 pm3 an3 cd3 ct3), sl3⟩) (c3 : PySem.W.codeIn K cd3 "BitWriter.append_bytes" = true) (k3 : PySem.W.keepIn K (.ref f3) = true)
    (a4 : PySem.W.findIn K (.ref C_BitWriter) "byte_list" = some (some (.ref f4))) (i4 : PySem.W.isFn K (.ref f4) = true)
    (l4 : K.lookup f4 = some ⟨oc4, od4, .func (PySem.W.fnOf "byte_list" "BitWriter.byte_list" (defArgs s_BitWriter_byte_list) (defBody s_BitWriter_byte_list) (defScope s_BitWriter_byte_list) .none kV4 dc4 pm4 an4 cd4 ct4), sl4⟩) (c4 : PySem.W.codeIn K cd4 "BitWriter.byte_list" = true) (k4 : PySem.W.keepIn K (.ref f4) = true)
    (a5 : PySem.W.findIn K (.ref C_BitReader) "__init__" = some (some (.ref f5))) (i5 : PySem.W.isFn K (.ref f5) = true)
    (l5 : K.lookup f5 = some ⟨oc5, od5, .func (PySem.W.fnOf "__init__" "BitReader.__init__" (defArgs s_BitReader_init) (defBody s_BitReader_init) (defScope s_BitReader_init) (.ref DT5) kV5 dc5 pm5 an5 cd5 ct5), sl5⟩) (c5 : PySem.W.codeIn K cd5 "BitReader.__init__" = true) (k5 : PySem.W.keepIn K (.ref f5) = true)
    (t5 : K.lookup DT5 = some ⟨tc5, td5, .seq (List.toArray [du5_0]) tn5, tsl5⟩)
    (rd5_0 : RelV (V.int 0) du5_0)
    (a6 : PySem.W.findIn K (.ref C_BitReader) "read" = some (some (.ref f6))) (i6 : PySem.W.isFn K (.ref f6) = true)
    (l6 : K.lookup f6 = some ⟨oc6, od6, .func (PySem.W.fnOf "read" "BitReader.read" (defArgs s_BitReader_read) (defBody s_BitReader_read) (defScope s_BitReader_read) .none kV6 dc6 pm6 an6 cd6 ct6), sl6⟩) (c6 : PySem.W.codeIn K cd6 "BitReader.read" = true) (k6 : PySem.W.keepIn K (.ref f6) = true)
    (a7 : PySem.W.findIn K (.ref C_BitReader) "since" = some (some (.ref f7))) (i7 : PySem.W.isFn K (.ref f7) = true)
    (l7 : K.lookup f7 = some ⟨oc7, od7, .func (PySem.W.fnOf "since" "BitReader.since" (defArgs s_BitReader_since) (defBody s_BitReader_since) (defScope s_BitReader_since) .none kV7 dc7 pm7 an7 cd7 ct7), sl7⟩) (c7 : PySem.W.codeIn K cd7 "BitReader.since" = true) (k7 : PySem.W.keepIn K (.ref f7) = true)
    (a8 : PySem.W.findIn K (.ref C_BitReader) "move_to" = some (some (.ref f8))) (i8 : PySem.W.isFn K (.ref f8) = true)
    (l8 : K.lookup f8 = some ⟨oc8, od8, .func (PySem.W.fnOf "move_to" "BitReader.move_to" (defArgs s_BitReader_move_to) (defBody s_BitReader_move_to) (defScope s_BitReader_move_to) .none kV8 dc8 pm8 an8 cd8 ct8), sl8⟩) (c8 : PySem.W.codeIn K cd8 "BitReader.move_to" = true) (k8 : PySem.W.keepIn K (.ref f8) = true)
    (a9 : PySem.W.findIn K (.ref C_BitReader) "byte_place" = some (some (.ref f9))) (i9 : PySem.W.isFn K (.ref f9) = true)
    (l9 : K.lookup f9 = some ⟨oc9, od9, .func (PySem.W.fnOf "byte_place" "BitReader.byte_place" (defArgs s_BitReader_byte_place) (defBody s_BitReader_byte_place) (defScope s_BitReader_byte_place) .none kV9 dc9 pm9 an9 cd9 ct9), sl9⟩) (c9 : PySem.W.codeIn K cd9 "BitReader.byte_place" = true) (k9 : PySem.W.keepIn K (.ref f9) = true)
    (a10 : PySem.W.findIn K (.ref C_BitReader) "bit_place" = some (some (.ref f10))) (i10 : PySem.W.isFn K (.ref f10) = true)
    (l10 : K.lookup f10 = some ⟨oc10, od10, .func (PySem.W.fnOf "bit_place" "BitReader.bit_place" (defArgs s_BitReader_bit_place) (defBody s_BitReader_bit_place) (defScope s_BitReader_bit_place) .none kV10 dc10 pm10 an10 cd10 ct10), sl10⟩) (c10 : PySem.W.codeIn K cd10 "BitReader.bit_place" = true) (k10 : PySem.W.keepIn K (.ref f10) = true)
    (a11 : PySem.W.nsIn K mainGlobals "crc8" = some (some (.ref f11)))
    (l11 : K.lookup f11 = some ⟨oc11, od11, .func (PySem.W.fnOf "crc8" "crc8" (defArgs s_crc8) (defBody s_crc8) (defScope s_crc8) (.ref DT11) kV11 dc11 pm11 an11 cd11 ct11), sl11⟩) (c11 : PySem.W.codeIn K cd11 "crc8" = true) (k11 : PySem.W.keepIn K (.ref f11) = true)
    (t11 : K.lookup DT11 = some ⟨tc11, td11, .seq (List.toArray [du11_0]) tn11, tsl11⟩)
    (rd11_0 : RelV (V.int 0) du11_0)
    (a12 : PySem.W.nsIn K mainGlobals "_divided" = some (some (.ref f12)))
    (l12 : K.lookup f12 = some ⟨oc12, od12, .func (PySem.W.fnOf "_divided" "_divided" (defArgs s_divided) (defBody s_divided) (defScope s_divided) .none kV12 dc12 pm12 an12 cd12 ct12), sl12⟩) (c12 : PySem.W.codeIn K cd12 "_divided" = true) (k12 : PySem.W.keepIn K (.ref f12) = true)
    (a13 : PySem.W.nsIn K mainGlobals "write_number" = some (some (.ref f13)))
    (l13 : K.lookup f13 = some ⟨oc13, od13, .func (PySem.W.fnOf "write_number" "write_number" (defArgs s_write_number) (defBody s_write_number) (defScope s_write_number) .none kV13 dc13 pm13 an13 cd13 ct13), sl13⟩) (c13 : PySem.W.codeIn K cd13 "write_number" = true) (k13 : PySem.W.keepIn K (.ref f13) = true)
    (a14 : PySem.W.nsIn K mainGlobals "read_number" = some (some (.ref f14)))
    (l14 : K.lookup f14 = some ⟨oc14, od14, .func (PySem.W.fnOf "read_number" "read_number" (defArgs s_read_number) (defBody s_read_number) (defScope s_read_number) .none kV14 dc14 pm14 an14 cd14 ct14), sl14⟩) (c14 : PySem.W.codeIn K cd14 "read_number" = true) (k14 : PySem.W.keepIn K (.ref f14) = true)
    (a15 : PySem.W.nsIn K mainGlobals "_number_ahead" = some (some (.ref f15)))
    (l15 : K.lookup f15 = some ⟨oc15, od15, .func (PySem.W.fnOf "_number_ahead" "_number_ahead" (defArgs s_number_ahead) (defBody s_number_ahead) (defScope s_number_ahead) .none kV15 dc15 pm15 an15 cd15 ct15), sl15⟩) (c15 : PySem.W.codeIn K cd15 "_number_ahead" = true) (k15 : PySem.W.keepIn K (.ref f15) = true)
    (a16 : PySem.W.nsIn K mainGlobals "_further_bits" = some (some (.ref f16)))
    (l16 : K.lookup f16 = some ⟨oc16, od16, .func (PySem.W.fnOf "_further_bits" "_further_bits" (defArgs s_further_bits) (defBody s_further_bits) (defScope s_further_bits) .none kV16 dc16 pm16 an16 cd16 ct16), sl16⟩) (c16 : PySem.W.codeIn K cd16 "_further_bits" = true) (k16 : PySem.W.keepIn K (.ref f16) = true)
    (a17 : PySem.W.nsIn K mainGlobals "_bound" = some (some (.ref f17)))
    (l17 : K.lookup f17 = some ⟨oc17, od17, .func (PySem.W.fnOf "_bound" "_bound" (defArgs s_bound) (defBody s_bound) (defScope s_bound) .none kV17 dc17 pm17 an17 cd17 ct17), sl17⟩) (c17 : PySem.W.codeIn K cd17 "_bound" = true) (k17 : PySem.W.keepIn K (.ref f17) = true)
    (a18 : PySem.W.nsIn K mainGlobals "_least_first" = some (some (.ref f18)))
    (l18 : K.lookup f18 = some ⟨oc18, od18, .func (PySem.W.fnOf "_least_first" "_least_first" (defArgs s_least_first) (defBody s_least_first) (defScope s_least_first) .none kV18 dc18 pm18 an18 cd18 ct18), sl18⟩) (c18 : PySem.W.codeIn K cd18 "_least_first" = true) (k18 : PySem.W.keepIn K (.ref f18) = true)
    (a19 : PySem.W.nsIn K mainGlobals "_count_told" = some (some (.ref f19)))
    (l19 : K.lookup f19 = some ⟨oc19, od19, .func (PySem.W.fnOf "_count_told" "_count_told" (defArgs s_count_told) (defBody s_count_told) (defScope s_count_told) .none kV19 dc19 pm19 an19 cd19 ct19), sl19⟩) (c19 : PySem.W.codeIn K cd19 "_count_told" = true) (k19 : PySem.W.keepIn K (.ref f19) = true)
    (a20 : PySem.W.findIn K (.ref C_FrameHeader) "__init__" = some (some (.ref f20))) (i20 : PySem.W.isFn K (.ref f20) = true)
    (l20 : K.lookup f20 = some ⟨oc20, od20, .func (PySem.W.fnOf "__init__" "FrameHeader.__init__" (defArgs s_FrameHeader_init) (defBody s_FrameHeader_init) (defScope s_FrameHeader_init) .none kV20 dc20 pm20 an20 cd20 ct20), sl20⟩) (c20 : PySem.W.codeIn K cd20 "FrameHeader.__init__" = true) (k20 : PySem.W.keepIn K (.ref f20) = true)
    (a21 : PySem.W.findIn K (.ref C_FrameHeader) "__eq__" = some (some (.ref f21))) (i21 : PySem.W.isFn K (.ref f21) = true)
    (l21 : K.lookup f21 = some ⟨oc21, od21, .func (PySem.W.fnOf "__eq__" "FrameHeader.__eq__" (defArgs s_FrameHeader_eq) (defBody s_FrameHeader_eq) (defScope s_FrameHeader_eq) .none kV21 dc21 pm21 an21 cd21 ct21), sl21⟩) (c21 : PySem.W.codeIn K cd21 "FrameHeader.__eq__" = true) (k21 : PySem.W.keepIn K (.ref f21) = true)
    (a22 : PySem.W.nsIn K mainGlobals "write_header" = some (some (.ref f22)))
    (l22 : K.lookup f22 = some ⟨oc22, od22, .func (PySem.W.fnOf "write_header" "write_header" (defArgs s_write_header) (defBody s_write_header) (defScope s_write_header) .none kV22 dc22 pm22 an22 cd22 ct22), sl22⟩) (c22 : PySem.W.codeIn K cd22 "write_header" = true) (k22 : PySem.W.keepIn K (.ref f22) = true)
    (a23 : PySem.W.nsIn K mainGlobals "read_header" = some (some (.ref f23)))
    (l23 : K.lookup f23 = some ⟨oc23, od23, .func (PySem.W.fnOf "read_header" "read_header" (defArgs s_read_header) (defBody s_read_header) (defScope s_read_header) .none kV23 dc23 pm23 an23 cd23 ct23), sl23⟩) (c23 : PySem.W.codeIn K cd23 "read_header" = true) (k23 : PySem.W.keepIn K (.ref f23) = true)
    (a24 : PySem.W.nsIn K mainGlobals "header_bytes" = some (some (.ref f24)))
    (l24 : K.lookup f24 = some ⟨oc24, od24, .func (PySem.W.fnOf "header_bytes" "header_bytes" (defArgs s_header_bytes) (defBody s_header_bytes) (defScope s_header_bytes) .none kV24 dc24 pm24 an24 cd24 ct24), sl24⟩) (c24 : PySem.W.codeIn K cd24 "header_bytes" = true) (k24 : PySem.W.keepIn K (.ref f24) = true)
    (a25 : PySem.W.nsIn K mainGlobals "_size_code" = some (some (.ref f25)))
    (l25 : K.lookup f25 = some ⟨oc25, od25, .func (PySem.W.fnOf "_size_code" "_size_code" (defArgs s_size_code) (defBody s_size_code) (defScope s_size_code) .none kV25 dc25 pm25 an25 cd25 ct25), sl25⟩) (c25 : PySem.W.codeIn K cd25 "_size_code" = true) (k25 : PySem.W.keepIn K (.ref f25) = true)
    (a26 : PySem.W.nsIn K mainGlobals "_rate_code" = some (some (.ref f26)))
    (l26 : K.lookup f26 = some ⟨oc26, od26, .func (PySem.W.fnOf "_rate_code" "_rate_code" (defArgs s_rate_code) (defBody s_rate_code) (defScope s_rate_code) .none kV26 dc26 pm26 an26 cd26 ct26), sl26⟩) (c26 : PySem.W.codeIn K cd26 "_rate_code" = true) (k26 : PySem.W.keepIn K (.ref f26) = true)
    (a27 : PySem.W.nsIn K mainGlobals "_channel_code" = some (some (.ref f27)))
    (l27 : K.lookup f27 = some ⟨oc27, od27, .func (PySem.W.fnOf "_channel_code" "_channel_code" (defArgs s_channel_code) (defBody s_channel_code) (defScope s_channel_code) .none kV27 dc27 pm27 an27 cd27 ct27), sl27⟩) (c27 : PySem.W.codeIn K cd27 "_channel_code" = true) (k27 : PySem.W.keepIn K (.ref f27) = true)
    (a28 : PySem.W.nsIn K mainGlobals "_depth_code" = some (some (.ref f28)))
    (l28 : K.lookup f28 = some ⟨oc28, od28, .func (PySem.W.fnOf "_depth_code" "_depth_code" (defArgs s_depth_code) (defBody s_depth_code) (defScope s_depth_code) .none kV28 dc28 pm28 an28 cd28 ct28), sl28⟩) (c28 : PySem.W.codeIn K cd28 "_depth_code" = true) (k28 : PySem.W.keepIn K (.ref f28) = true)
    (a29 : PySem.W.nsIn K mainGlobals "_write_block_size" = some (some (.ref f29)))
    (l29 : K.lookup f29 = some ⟨oc29, od29, .func (PySem.W.fnOf "_write_block_size" "_write_block_size" (defArgs s_write_block_size) (defBody s_write_block_size) (defScope s_write_block_size) .none kV29 dc29 pm29 an29 cd29 ct29), sl29⟩) (c29 : PySem.W.codeIn K cd29 "_write_block_size" = true) (k29 : PySem.W.keepIn K (.ref f29) = true)
    (a30 : PySem.W.nsIn K mainGlobals "_write_rate" = some (some (.ref f30)))
    (l30 : K.lookup f30 = some ⟨oc30, od30, .func (PySem.W.fnOf "_write_rate" "_write_rate" (defArgs s_write_rate) (defBody s_write_rate) (defScope s_write_rate) .none kV30 dc30 pm30 an30 cd30 ct30), sl30⟩) (c30 : PySem.W.codeIn K cd30 "_write_rate" = true) (k30 : PySem.W.keepIn K (.ref f30) = true)
    (a31 : PySem.W.nsIn K mainGlobals "_read_sync" = some (some (.ref f31)))
    (l31 : K.lookup f31 = some ⟨oc31, od31, .func (PySem.W.fnOf "_read_sync" "_read_sync" (defArgs s_read_sync) (defBody s_read_sync) (defScope s_read_sync) .none kV31 dc31 pm31 an31 cd31 ct31), sl31⟩) (c31 : PySem.W.codeIn K cd31 "_read_sync" = true) (k31 : PySem.W.keepIn K (.ref f31) = true)
    (a32 : PySem.W.nsIn K mainGlobals "_read_size_code" = some (some (.ref f32)))
    (l32 : K.lookup f32 = some ⟨oc32, od32, .func (PySem.W.fnOf "_read_size_code" "_read_size_code" (defArgs s_read_size_code) (defBody s_read_size_code) (defScope s_read_size_code) .none kV32 dc32 pm32 an32 cd32 ct32), sl32⟩) (c32 : PySem.W.codeIn K cd32 "_read_size_code" = true) (k32 : PySem.W.keepIn K (.ref f32) = true)
    (a33 : PySem.W.nsIn K mainGlobals "_read_rate_code" = some (some (.ref f33)))
    (l33 : K.lookup f33 = some ⟨oc33, od33, .func (PySem.W.fnOf "_read_rate_code" "_read_rate_code" (defArgs s_read_rate_code) (defBody s_read_rate_code) (defScope s_read_rate_code) .none kV33 dc33 pm33 an33 cd33 ct33), sl33⟩) (c33 : PySem.W.codeIn K cd33 "_read_rate_code" = true) (k33 : PySem.W.keepIn K (.ref f33) = true)
    (a34 : PySem.W.nsIn K mainGlobals "_read_channels" = some (some (.ref f34)))
    (l34 : K.lookup f34 = some ⟨oc34, od34, .func (PySem.W.fnOf "_read_channels" "_read_channels" (defArgs s_read_channels) (defBody s_read_channels) (defScope s_read_channels) .none kV34 dc34 pm34 an34 cd34 ct34), sl34⟩) (c34 : PySem.W.codeIn K cd34 "_read_channels" = true) (k34 : PySem.W.keepIn K (.ref f34) = true)
    (a35 : PySem.W.nsIn K mainGlobals "_read_depth" = some (some (.ref f35)))
    (l35 : K.lookup f35 = some ⟨oc35, od35, .func (PySem.W.fnOf "_read_depth" "_read_depth" (defArgs s_read_depth) (defBody s_read_depth) (defScope s_read_depth) .none kV35 dc35 pm35 an35 cd35 ct35), sl35⟩) (c35 : PySem.W.codeIn K cd35 "_read_depth" = true) (k35 : PySem.W.keepIn K (.ref f35) = true)
    (a36 : PySem.W.nsIn K mainGlobals "_read_zero_bit" = some (some (.ref f36)))
    (l36 : K.lookup f36 = some ⟨oc36, od36, .func (PySem.W.fnOf "_read_zero_bit" "_read_zero_bit" (defArgs s_read_zero_bit) (defBody s_read_zero_bit) (defScope s_read_zero_bit) .none kV36 dc36 pm36 an36 cd36 ct36), sl36⟩) (c36 : PySem.W.codeIn K cd36 "_read_zero_bit" = true) (k36 : PySem.W.keepIn K (.ref f36) = true)
    (a37 : PySem.W.nsIn K mainGlobals "_read_frame_number" = some (some (.ref f37)))
    (l37 : K.lookup f37 = some ⟨oc37, od37, .func (PySem.W.fnOf "_read_frame_number" "_read_frame_number" (defArgs s_read_frame_number) (defBody s_read_frame_number) (defScope s_read_frame_number) .none kV37 dc37 pm37 an37 cd37 ct37), sl37⟩) (c37 : PySem.W.codeIn K cd37 "_read_frame_number" = true) (k37 : PySem.W.keepIn K (.ref f37) = true)
    (a38 : PySem.W.nsIn K mainGlobals "_read_block_size" = some (some (.ref f38)))
    (l38 : K.lookup f38 = some ⟨oc38, od38, .func (PySem.W.fnOf "_read_block_size" "_read_block_size" (defArgs s_read_block_size) (defBody s_read_block_size) (defScope s_read_block_size) .none kV38 dc38 pm38 an38 cd38 ct38), sl38⟩) (c38 : PySem.W.codeIn K cd38 "_read_block_size" = true) (k38 : PySem.W.keepIn K (.ref f38) = true)
    (a39 : PySem.W.nsIn K mainGlobals "_read_rate" = some (some (.ref f39)))
    (l39 : K.lookup f39 = some ⟨oc39, od39, .func (PySem.W.fnOf "_read_rate" "_read_rate" (defArgs s_read_rate) (defBody s_read_rate) (defScope s_read_rate) .none kV39 dc39 pm39 an39 cd39 ct39), sl39⟩) (c39 : PySem.W.codeIn K cd39 "_read_rate" = true) (k39 : PySem.W.keepIn K (.ref f39) = true)
    (a40 : PySem.W.nsIn K mainGlobals "_read_checksum" = some (some (.ref f40)))
    (l40 : K.lookup f40 = some ⟨oc40, od40, .func (PySem.W.fnOf "_read_checksum" "_read_checksum" (defArgs s_read_checksum) (defBody s_read_checksum) (defScope s_read_checksum) .none kV40 dc40 pm40 an40 cd40 ct40), sl40⟩) (c40 : PySem.W.codeIn K cd40 "_read_checksum" = true) (k40 : PySem.W.keepIn K (.ref f40) = true)
    (a41 : PySem.W.nsIn K mainGlobals "_law_cell" = some (some (.ref f41)))
    (l41 : K.lookup f41 = some ⟨oc41, od41, .func (PySem.W.fnOf "_law_cell" "_law_cell" (defArgs s_law_cell) (defBody s_law_cell) (defScope s_law_cell) .none kV41 dc41 pm41 an41 cd41 ct41), sl41⟩) (c41 : PySem.W.codeIn K cd41 "_law_cell" = true) (k41 : PySem.W.keepIn K (.ref f41) = true)
    (a42 : PySem.W.nsIn K mainGlobals "_law_number" = some (some (.ref f42)))
    (l42 : K.lookup f42 = some ⟨oc42, od42, .func (PySem.W.fnOf "_law_number" "_law_number" (defArgs s_law_number) (defBody s_law_number) (defScope s_law_number) .none kV42 dc42 pm42 an42 cd42 ct42), sl42⟩) (c42 : PySem.W.codeIn K cd42 "_law_number" = true) (k42 : PySem.W.keepIn K (.ref f42) = true)
    (a43 : PySem.W.nsIn K mainGlobals "_law_crc" = some (some (.ref f43)))
    (l43 : K.lookup f43 = some ⟨oc43, od43, .func (PySem.W.fnOf "_law_crc" "_law_crc" (defArgs s_law_crc) (defBody s_law_crc) (defScope s_law_crc) .none kV43 dc43 pm43 an43 cd43 ct43), sl43⟩) (c43 : PySem.W.codeIn K cd43 "_law_crc" = true) (k43 : PySem.W.keepIn K (.ref f43) = true)
    (a44 : PySem.W.nsIn K mainGlobals "_law_code" = some (some (.ref f44)))
    (l44 : K.lookup f44 = some ⟨oc44, od44, .func (PySem.W.fnOf "_law_code" "_law_code" (defArgs s_law_code) (defBody s_law_code) (defScope s_law_code) .none kV44 dc44 pm44 an44 cd44 ct44), sl44⟩) (c44 : PySem.W.codeIn K cd44 "_law_code" = true) (k44 : PySem.W.keepIn K (.ref f44) = true)
    (a45 : PySem.W.nsIn K mainGlobals "_law_near" = some (some (.ref f45)))
    (l45 : K.lookup f45 = some ⟨oc45, od45, .func (PySem.W.fnOf "_law_near" "_law_near" (defArgs s_law_near) (defBody s_law_near) (defScope s_law_near) .none kV45 dc45 pm45 an45 cd45 ct45), sl45⟩) (c45 : PySem.W.codeIn K cd45 "_law_near" = true) (k45 : PySem.W.keepIn K (.ref f45) = true)
    (a46 : PySem.W.nsIn K mainGlobals "_law_size_form" = some (some (.ref f46)))
    (l46 : K.lookup f46 = some ⟨oc46, od46, .func (PySem.W.fnOf "_law_size_form" "_law_size_form" (defArgs s_law_size_form) (defBody s_law_size_form) (defScope s_law_size_form) .none kV46 dc46 pm46 an46 cd46 ct46), sl46⟩) (c46 : PySem.W.codeIn K cd46 "_law_size_form" = true) (k46 : PySem.W.keepIn K (.ref f46) = true)
    (a47 : PySem.W.nsIn K mainGlobals "_law_rate_form" = some (some (.ref f47)))
    (l47 : K.lookup f47 = some ⟨oc47, od47, .func (PySem.W.fnOf "_law_rate_form" "_law_rate_form" (defArgs s_law_rate_form) (defBody s_law_rate_form) (defScope s_law_rate_form) .none kV47 dc47 pm47 an47 cd47 ct47), sl47⟩) (c47 : PySem.W.codeIn K cd47 "_law_rate_form" = true) (k47 : PySem.W.keepIn K (.ref f47) = true)
    (a48 : PySem.W.nsIn K mainGlobals "_law_due" = some (some (.ref f48)))
    (l48 : K.lookup f48 = some ⟨oc48, od48, .func (PySem.W.fnOf "_law_due" "_law_due" (defArgs s_law_due) (defBody s_law_due) (defScope s_law_due) .none kV48 dc48 pm48 an48 cd48 ct48), sl48⟩) (c48 : PySem.W.codeIn K cd48 "_law_due" = true) (k48 : PySem.W.keepIn K (.ref f48) = true)
    (a49 : PySem.W.nsIn K mainGlobals "law" = some (some (.ref f49)))
    (l49 : K.lookup f49 = some ⟨oc49, od49, .func (PySem.W.fnOf "law" "law" (defArgs s_law) (defBody s_law) (defScope s_law) .none kV49 dc49 pm49 an49 cd49 ct49), sl49⟩) (c49 : PySem.W.codeIn K cd49 "law" = true) (k49 : PySem.W.keepIn K (.ref f49) = true)
    (aC_BitWriter : PySem.W.nsIn K mainGlobals "BitWriter" = some (some (.ref C_BitWriter)))
    (pg_BitWriter : PySem.W.plainGet K C_BitWriter Str.empty = true) (hd_BitWriter : PySem.W.hasDictIn K C_BitWriter = true) (po_BitWriter : PySem.W.plainOver K C_BitWriter = true) (sa_BitWriter : PySem.W.findIn K (.ref C_BitWriter) "__setattr__" = some (some (.builtin "object.__setattr__"))) (mk_BitWriter : PySem.W.makesIn K C_BitWriter = true) (kc_BitWriter : PySem.W.keepIn K (.ref C_BitWriter) = true)
    (n_BitWriter_whole : PySem.W.findIn K (.ref C_BitWriter) "_whole" = some none)
    (n_BitWriter_held : PySem.W.findIn K (.ref C_BitWriter) "_held" = some none)
    (n_BitWriter_held_bits : PySem.W.findIn K (.ref C_BitWriter) "_held_bits" = some none)
    (aC_BitReader : PySem.W.nsIn K mainGlobals "BitReader" = some (some (.ref C_BitReader)))
    (pg_BitReader : PySem.W.plainGet K C_BitReader Str.empty = true) (hd_BitReader : PySem.W.hasDictIn K C_BitReader = true) (po_BitReader : PySem.W.plainOver K C_BitReader = true) (sa_BitReader : PySem.W.findIn K (.ref C_BitReader) "__setattr__" = some (some (.builtin "object.__setattr__"))) (mk_BitReader : PySem.W.makesIn K C_BitReader = true) (kc_BitReader : PySem.W.keepIn K (.ref C_BitReader) = true)
    (n_BitReader_data : PySem.W.findIn K (.ref C_BitReader) "_data" = some none)
    (n_BitReader_position : PySem.W.findIn K (.ref C_BitReader) "_position" = some none)
    (aC_FrameHeader : PySem.W.nsIn K mainGlobals "FrameHeader" = some (some (.ref C_FrameHeader)))
    (pg_FrameHeader : PySem.W.plainGet K C_FrameHeader Str.empty = true) (hd_FrameHeader : PySem.W.hasDictIn K C_FrameHeader = true) (po_FrameHeader : PySem.W.plainOver K C_FrameHeader = true) (sa_FrameHeader : PySem.W.findIn K (.ref C_FrameHeader) "__setattr__" = some (some (.builtin "object.__setattr__"))) (mk_FrameHeader : PySem.W.makesIn K C_FrameHeader = true) (kc_FrameHeader : PySem.W.keepIn K (.ref C_FrameHeader) = true)
    (n_FrameHeader_variable : PySem.W.findIn K (.ref C_FrameHeader) "variable" = some none)
    (n_FrameHeader_block_size : PySem.W.findIn K (.ref C_FrameHeader) "block_size" = some none)
    (n_FrameHeader_rate : PySem.W.findIn K (.ref C_FrameHeader) "rate" = some none)
    (n_FrameHeader_channels : PySem.W.findIn K (.ref C_FrameHeader) "channels" = some none)
    (n_FrameHeader_assignment : PySem.W.findIn K (.ref C_FrameHeader) "assignment" = some none)
    (n_FrameHeader_depth : PySem.W.findIn K (.ref C_FrameHeader) "depth" = some none)
    (n_FrameHeader_number : PySem.W.findIn K (.ref C_FrameHeader) "number" = some none)
    (ty_FrameHeaderha : PySem.W.findIn K (.ref C_FrameHeader) "__class__" = some (some (.builtin "object.__class__"))) (ty_FrameHeaderhn : PySem.W.specialIn K (.builtin "object.__class__") "__get__" = some (some (.builtin "getset_descriptor.__get__"))) (ty_FrameHeaderht : PySem.W.takesIn K (.builtin "object.__class__") = some true) (ty_FrameHeaderhm : PySem.W.mroIn K C_FrameHeader (.type "object") = some true)
    (yt_FrameHeader : PySem.W.typeIn K (.ref C_FrameHeader) = some (.type "type"))
    (yz_FrameHeader : PySem.W.subIn K (.ref C_FrameHeader) (.ref C_FrameHeader) = some true)
    (aC_MonochordError : PySem.W.nsIn K mainGlobals "MonochordError" = some (some (.ref C_MonochordError)))
    (z_list : PySem.W.nsIn K mainGlobals "list" = some none)
    (z_len : PySem.W.nsIn K mainGlobals "len" = some none)
    (z_range : PySem.W.nsIn K mainGlobals "range" = some none)
    (z_isinstance : PySem.W.nsIn K mainGlobals "isinstance" = some none)
    (z_int : PySem.W.nsIn K mainGlobals "int" = some none)
    (z_max : PySem.W.nsIn K mainGlobals "max" = some none)
    (z_min : PySem.W.nsIn K mainGlobals "min" = some none)
    (q_STEPS_8 : PySem.W.nsIn K mainGlobals "_STEPS_8" = some (some (.ref A_STEPS_8))) (l_STEPS_8 : K.lookup A_STEPS_8 = some ⟨.type "tuple", none, .seq (List.toArray [wSTEPS_8_0, wSTEPS_8_1, wSTEPS_8_2, wSTEPS_8_3, wSTEPS_8_4, wSTEPS_8_5, wSTEPS_8_6, wSTEPS_8_7, wSTEPS_8_8, wSTEPS_8_9, wSTEPS_8_10, wSTEPS_8_11, wSTEPS_8_12, wSTEPS_8_13, wSTEPS_8_14, wSTEPS_8_15]) nxSTEPS_8, sxSTEPS_8⟩)
    (r_STEPS_8_0 : RelV (.int 0) wSTEPS_8_0)
    (r_STEPS_8_1 : RelV (.int 7) wSTEPS_8_1)
    (r_STEPS_8_2 : RelV (.int 14) wSTEPS_8_2)
    (r_STEPS_8_3 : RelV (.int 9) wSTEPS_8_3)
    (r_STEPS_8_4 : RelV (.int 28) wSTEPS_8_4)
    (r_STEPS_8_5 : RelV (.int 27) wSTEPS_8_5)
    (r_STEPS_8_6 : RelV (.int 18) wSTEPS_8_6)
    (r_STEPS_8_7 : RelV (.int 21) wSTEPS_8_7)
    (r_STEPS_8_8 : RelV (.int 56) wSTEPS_8_8)
    (r_STEPS_8_9 : RelV (.int 63) wSTEPS_8_9)
    (r_STEPS_8_10 : RelV (.int 54) wSTEPS_8_10)
    (r_STEPS_8_11 : RelV (.int 49) wSTEPS_8_11)
    (r_STEPS_8_12 : RelV (.int 36) wSTEPS_8_12)
    (r_STEPS_8_13 : RelV (.int 35) wSTEPS_8_13)
    (r_STEPS_8_14 : RelV (.int 42) wSTEPS_8_14)
    (r_STEPS_8_15 : RelV (.int 45) wSTEPS_8_15)
    (q_SYNC_CODE : PySem.W.nsIn K mainGlobals "_SYNC_CODE" = some (some u_SYNC_CODE)) (r_SYNC_CODE : RelV (.int (16382)) u_SYNC_CODE)
    (q_BLOCK_SIZES : PySem.W.nsIn K mainGlobals "_BLOCK_SIZES" = some (some (.ref A_BLOCK_SIZES))) (l_BLOCK_SIZES : K.lookup A_BLOCK_SIZES = some ⟨.type "tuple", none, .seq (List.toArray [wBLOCK_SIZES_0, wBLOCK_SIZES_1, wBLOCK_SIZES_2, wBLOCK_SIZES_3, wBLOCK_SIZES_4, wBLOCK_SIZES_5, wBLOCK_SIZES_6, wBLOCK_SIZES_7, wBLOCK_SIZES_8, wBLOCK_SIZES_9, wBLOCK_SIZES_10, wBLOCK_SIZES_11, wBLOCK_SIZES_12, wBLOCK_SIZES_13, wBLOCK_SIZES_14, wBLOCK_SIZES_15]) nxBLOCK_SIZES, sxBLOCK_SIZES⟩)
    (r_BLOCK_SIZES_0 : RelV (.non) wBLOCK_SIZES_0)
    (r_BLOCK_SIZES_1 : RelV (.int 192) wBLOCK_SIZES_1)
    (r_BLOCK_SIZES_2 : RelV (.int 576) wBLOCK_SIZES_2)
    (r_BLOCK_SIZES_3 : RelV (.int 1152) wBLOCK_SIZES_3)
    (r_BLOCK_SIZES_4 : RelV (.int 2304) wBLOCK_SIZES_4)
    (r_BLOCK_SIZES_5 : RelV (.int 4608) wBLOCK_SIZES_5)
    (r_BLOCK_SIZES_6 : RelV (.non) wBLOCK_SIZES_6)
    (r_BLOCK_SIZES_7 : RelV (.non) wBLOCK_SIZES_7)
    (r_BLOCK_SIZES_8 : RelV (.int 256) wBLOCK_SIZES_8)
    (r_BLOCK_SIZES_9 : RelV (.int 512) wBLOCK_SIZES_9)
    (r_BLOCK_SIZES_10 : RelV (.int 1024) wBLOCK_SIZES_10)
    (r_BLOCK_SIZES_11 : RelV (.int 2048) wBLOCK_SIZES_11)
    (r_BLOCK_SIZES_12 : RelV (.int 4096) wBLOCK_SIZES_12)
    (r_BLOCK_SIZES_13 : RelV (.int 8192) wBLOCK_SIZES_13)
    (r_BLOCK_SIZES_14 : RelV (.int 16384) wBLOCK_SIZES_14)
    (r_BLOCK_SIZES_15 : RelV (.int 32768) wBLOCK_SIZES_15)
    (q_RATES : PySem.W.nsIn K mainGlobals "_RATES" = some (some (.ref A_RATES))) (l_RATES : K.lookup A_RATES = some ⟨.type "tuple", none, .seq (List.toArray [wRATES_0, wRATES_1, wRATES_2, wRATES_3, wRATES_4, wRATES_5, wRATES_6, wRATES_7, wRATES_8, wRATES_9, wRATES_10, wRATES_11, wRATES_12, wRATES_13, wRATES_14, wRATES_15]) nxRATES, sxRATES⟩)
    (r_RATES_0 : RelV (.non) wRATES_0)
    (r_RATES_1 : RelV (.int 88200) wRATES_1)
    (r_RATES_2 : RelV (.int 176400) wRATES_2)
    (r_RATES_3 : RelV (.int 192000) wRATES_3)
    (r_RATES_4 : RelV (.int 8000) wRATES_4)
    (r_RATES_5 : RelV (.int 16000) wRATES_5)
    (r_RATES_6 : RelV (.int 22050) wRATES_6)
    (r_RATES_7 : RelV (.int 24000) wRATES_7)
    (r_RATES_8 : RelV (.int 32000) wRATES_8)
    (r_RATES_9 : RelV (.int 44100) wRATES_9)
    (r_RATES_10 : RelV (.int 48000) wRATES_10)
    (r_RATES_11 : RelV (.int 96000) wRATES_11)
    (r_RATES_12 : RelV (.non) wRATES_12)
    (r_RATES_13 : RelV (.non) wRATES_13)
    (r_RATES_14 : RelV (.non) wRATES_14)
    (r_RATES_15 : RelV (.non) wRATES_15)
    (q_DEPTHS : PySem.W.nsIn K mainGlobals "_DEPTHS" = some (some (.ref A_DEPTHS))) (l_DEPTHS : K.lookup A_DEPTHS = some ⟨.type "tuple", none, .seq (List.toArray [wDEPTHS_0, wDEPTHS_1, wDEPTHS_2, wDEPTHS_3, wDEPTHS_4, wDEPTHS_5, wDEPTHS_6, wDEPTHS_7]) nxDEPTHS, sxDEPTHS⟩)
    (r_DEPTHS_0 : RelV (.non) wDEPTHS_0)
    (r_DEPTHS_1 : RelV (.int 8) wDEPTHS_1)
    (r_DEPTHS_2 : RelV (.int 12) wDEPTHS_2)
    (r_DEPTHS_3 : RelV (.non) wDEPTHS_3)
    (r_DEPTHS_4 : RelV (.int 16) wDEPTHS_4)
    (r_DEPTHS_5 : RelV (.int 20) wDEPTHS_5)
    (r_DEPTHS_6 : RelV (.int 24) wDEPTHS_6)
    (r_DEPTHS_7 : RelV (.int 32) wDEPTHS_7)
    (q_STEREO : PySem.W.nsIn K mainGlobals "_STEREO" = some (some (.ref A_STEREO))) (l_STEREO : K.lookup A_STEREO = some ⟨.type "tuple", none, .seq (List.toArray [wSTEREO_0, wSTEREO_1, wSTEREO_2]) nxSTEREO, sxSTEREO⟩)
    (r_STEREO_0 : RelV (.str "left-side") wSTEREO_0)
    (r_STEREO_1 : RelV (.str "side-right") wSTEREO_1)
    (r_STEREO_2 : RelV (.str "mid-side") wSTEREO_2)
    (q_MOST_BLOCK_SIZE : PySem.W.nsIn K mainGlobals "_MOST_BLOCK_SIZE" = some (some u_MOST_BLOCK_SIZE)) (r_MOST_BLOCK_SIZE : RelV (.int (65535)) u_MOST_BLOCK_SIZE)
    (q_MOST_FRAMES : PySem.W.nsIn K mainGlobals "_MOST_FRAMES" = some (some u_MOST_FRAMES)) (r_MOST_FRAMES : RelV (.int (2147483647)) u_MOST_FRAMES)
    (q_MOST_SAMPLES : PySem.W.nsIn K mainGlobals "_MOST_SAMPLES" = some (some u_MOST_SAMPLES)) (r_MOST_SAMPLES : RelV (.int (68719476735)) u_MOST_SAMPLES)
    : ∃ fd : FuncData, (∀ (s : Shared) (v : Value), BindsTo s fd ⟨[v], []⟩ [("script", v)]) ∧ ∀ base : Heap, K.In base → base.Ns mainGlobals mg → FnOk l.prog w K mg base CX0 7 fa fd ["script"] (sp_law K) := by
  have e := hfa.symm.trans (PySem.W.mg_of X G a49)
  cases e
  have F1 := fun_mk (st := s_BitWriter_init) l1 c1 k1
  have b1 := F1.binds (ps := ["self"]) fun _ _ _ _ _ _ us hl => match us, hl with | [_], _ => rfl
  have F2 := fun_mk (st := s_BitWriter_write) l2 c2 k2
  have b2 := F2.binds (ps := ["self", "width", "value"]) fun _ _ _ _ _ _ us hl => match us, hl with | [_, _, _], _ => rfl
  have F3 := fun_mk (st := s_BitWriter_append_bytes) l3 c3 k3
  have b3 := F3.binds (ps := ["self", "data"]) fun _ _ _ _ _ _ us hl => match us, hl with | [_, _], _ => rfl
  have F4 := fun_mk (st := s_BitWriter_byte_list) l4 c4 k4
  have b4 := F4.binds (ps := ["self"]) fun _ _ _ _ _ _ us hl => match us, hl with | [_], _ => rfl
  have F5 : FunD K "__init__" "BitReader.__init__" (defArgs s_BitReader_init) (defBody s_BitReader_init) (defScope s_BitReader_init) [V.int 0] [] _ _ := ⟨⟨_, _, _, _, _, _, _, _, _, _, rfl, l5, c5, (.inr ⟨by simp, DT5, _, [du5_0], tn5, rfl, t5, rfl, (.cons rd5_0 .nil)⟩), (.inl rfl)⟩, k5⟩
  obtain ⟨e3_5, v3_5, b3_5⟩ := F5.binds1 (ps := ["self", "data", "at"]) 3 1 (by simp) rfl fun T0 kV doc pm an cdv ct us its hu hi => match us, hu, its, hi with | [_, _, _], _, [_], _ => ⟨_, rfl, rfl⟩
  have F6 := fun_mk (st := s_BitReader_read) l6 c6 k6
  have b6 := F6.binds (ps := ["self", "width"]) fun _ _ _ _ _ _ us hl => match us, hl with | [_, _], _ => rfl
  have F7 := fun_mk (st := s_BitReader_since) l7 c7 k7
  have b7 := F7.binds (ps := ["self", "place"]) fun _ _ _ _ _ _ us hl => match us, hl with | [_, _], _ => rfl
  have F8 := fun_mk (st := s_BitReader_move_to) l8 c8 k8
  have b8 := F8.binds (ps := ["self", "bit_place"]) fun _ _ _ _ _ _ us hl => match us, hl with | [_, _], _ => rfl
  have F9 := fun_mk (st := s_BitReader_byte_place) l9 c9 k9
  have b9 := F9.binds (ps := ["self"]) fun _ _ _ _ _ _ us hl => match us, hl with | [_], _ => rfl
  have F10 := fun_mk (st := s_BitReader_bit_place) l10 c10 k10
  have b10 := F10.binds (ps := ["self"]) fun _ _ _ _ _ _ us hl => match us, hl with | [_], _ => rfl
  have F11 : FunD K "crc8" "crc8" (defArgs s_crc8) (defBody s_crc8) (defScope s_crc8) [V.int 0] [] _ _ := ⟨⟨_, _, _, _, _, _, _, _, _, _, rfl, l11, c11, (.inr ⟨by simp, DT11, _, [du11_0], tn11, rfl, t11, rfl, (.cons rd11_0 .nil)⟩), (.inl rfl)⟩, k11⟩
  obtain ⟨e1_11, v1_11, b1_11⟩ := F11.binds1 (ps := ["data", "start"]) 1 0 (by simp) rfl fun T0 kV doc pm an cdv ct us its hu hi => match us, hu, its, hi with | [_], _, [_], _ => ⟨_, rfl, rfl⟩
  have F12 := fun_mk (st := s_divided) l12 c12 k12
  have b12 := F12.binds (ps := ["data", "start", "width", "steps"]) fun _ _ _ _ _ _ us hl => match us, hl with | [_, _, _, _], _ => rfl
  have F13 := fun_mk (st := s_write_number) l13 c13 k13
  have b13 := F13.binds (ps := ["number"]) fun _ _ _ _ _ _ us hl => match us, hl with | [_], _ => rfl
  have F14 := fun_mk (st := s_read_number) l14 c14 k14
  have b14 := F14.binds (ps := ["reader"]) fun _ _ _ _ _ _ us hl => match us, hl with | [_], _ => rfl
  have F15 := fun_mk (st := s_number_ahead) l15 c15 k15
  have b15 := F15.binds (ps := ["reader"]) fun _ _ _ _ _ _ us hl => match us, hl with | [_], _ => rfl
  have F16 := fun_mk (st := s_further_bits) l16 c16 k16
  have b16 := F16.binds (ps := ["reader"]) fun _ _ _ _ _ _ us hl => match us, hl with | [_], _ => rfl
  have F17 := fun_mk (st := s_bound) l17 c17 k17
  have b17 := F17.binds (ps := ["count"]) fun _ _ _ _ _ _ us hl => match us, hl with | [_], _ => rfl
  have F18 := fun_mk (st := s_least_first) l18 c18 k18
  have b18 := F18.binds (ps := ["count"]) fun _ _ _ _ _ _ us hl => match us, hl with | [_], _ => rfl
  have F19 := fun_mk (st := s_count_told) l19 c19 k19
  have b19 := F19.binds (ps := ["first"]) fun _ _ _ _ _ _ us hl => match us, hl with | [_], _ => rfl
  have F20 : FunD K "__init__" "FrameHeader.__init__" (defArgs s_FrameHeader_init) (defBody s_FrameHeader_init) (defScope s_FrameHeader_init) [] [] _ _ := ⟨⟨_, _, _, _, _, _, _, _, _, _, rfl, l20, c20, (.inl ⟨rfl, rfl⟩), (.inl rfl)⟩, k20⟩
  have kb1_variable_block_size_rate_channels_assignment_depth_number_20 : KBn K _ ["self", "variable", "block_size", "rate", "channels", "assignment", "depth", "number"] 1 ["variable", "block_size", "rate", "channels", "assignment", "depth", "number"] (fun us ws => us ++ ws) (fun us ws => us ++ ws) := fund_kb0 F20 1 ["variable", "block_size", "rate", "channels", "assignment", "depth", "number"] (fun h1 h2 => Vals.append h1 h2) fun kV doc pm an cdv ct us ws hu hw => match us, hu, ws, hw with | [_], _, [_, _, _, _, _, _, _], _ => rfl
  have F21 := fun_mk (st := s_FrameHeader_eq) l21 c21 k21
  have b21 := F21.binds (ps := ["self", "other"]) fun _ _ _ _ _ _ us hl => match us, hl with | [_, _], _ => rfl
  have F22 := fun_mk (st := s_write_header) l22 c22 k22
  have b22 := F22.binds (ps := ["header"]) fun _ _ _ _ _ _ us hl => match us, hl with | [_], _ => rfl
  have F23 := fun_mk (st := s_read_header) l23 c23 k23
  have b23 := F23.binds (ps := ["reader", "rate", "depth"]) fun _ _ _ _ _ _ us hl => match us, hl with | [_, _, _], _ => rfl
  have F24 := fun_mk (st := s_header_bytes) l24 c24 k24
  have b24 := F24.binds (ps := ["header"]) fun _ _ _ _ _ _ us hl => match us, hl with | [_], _ => rfl
  have F25 := fun_mk (st := s_size_code) l25 c25 k25
  have b25 := F25.binds (ps := ["block_size"]) fun _ _ _ _ _ _ us hl => match us, hl with | [_], _ => rfl
  have F26 := fun_mk (st := s_rate_code) l26 c26 k26
  have b26 := F26.binds (ps := ["rate"]) fun _ _ _ _ _ _ us hl => match us, hl with | [_], _ => rfl
  have F27 := fun_mk (st := s_channel_code) l27 c27 k27
  have b27 := F27.binds (ps := ["header"]) fun _ _ _ _ _ _ us hl => match us, hl with | [_], _ => rfl
  have F28 := fun_mk (st := s_depth_code) l28 c28 k28
  have b28 := F28.binds (ps := ["depth"]) fun _ _ _ _ _ _ us hl => match us, hl with | [_], _ => rfl
  have F29 := fun_mk (st := s_write_block_size) l29 c29 k29
  have b29 := F29.binds (ps := ["writer", "code", "block_size"]) fun _ _ _ _ _ _ us hl => match us, hl with | [_, _, _], _ => rfl
  have F30 := fun_mk (st := s_write_rate) l30 c30 k30
  have b30 := F30.binds (ps := ["writer", "code", "rate"]) fun _ _ _ _ _ _ us hl => match us, hl with | [_, _, _], _ => rfl
  have F31 := fun_mk (st := s_read_sync) l31 c31 k31
  have b31 := F31.binds (ps := ["reader"]) fun _ _ _ _ _ _ us hl => match us, hl with | [_], _ => rfl
  have F32 := fun_mk (st := s_read_size_code) l32 c32 k32
  have b32 := F32.binds (ps := ["reader"]) fun _ _ _ _ _ _ us hl => match us, hl with | [_], _ => rfl
  have F33 := fun_mk (st := s_read_rate_code) l33 c33 k33
  have b33 := F33.binds (ps := ["reader"]) fun _ _ _ _ _ _ us hl => match us, hl with | [_], _ => rfl
  have F34 := fun_mk (st := s_read_channels) l34 c34 k34
  have b34 := F34.binds (ps := ["reader"]) fun _ _ _ _ _ _ us hl => match us, hl with | [_], _ => rfl
  have F35 := fun_mk (st := s_read_depth) l35 c35 k35
  have b35 := F35.binds (ps := ["reader", "depth"]) fun _ _ _ _ _ _ us hl => match us, hl with | [_, _], _ => rfl
  have F36 := fun_mk (st := s_read_zero_bit) l36 c36 k36
  have b36 := F36.binds (ps := ["reader"]) fun _ _ _ _ _ _ us hl => match us, hl with | [_], _ => rfl
  have F37 := fun_mk (st := s_read_frame_number) l37 c37 k37
  have b37 := F37.binds (ps := ["reader", "variable"]) fun _ _ _ _ _ _ us hl => match us, hl with | [_, _], _ => rfl
  have F38 := fun_mk (st := s_read_block_size) l38 c38 k38
  have b38 := F38.binds (ps := ["reader", "code"]) fun _ _ _ _ _ _ us hl => match us, hl with | [_, _], _ => rfl
  have F39 := fun_mk (st := s_read_rate) l39 c39 k39
  have b39 := F39.binds (ps := ["reader", "code", "rate"]) fun _ _ _ _ _ _ us hl => match us, hl with | [_, _, _], _ => rfl
  have F40 := fun_mk (st := s_read_checksum) l40 c40 k40
  have b40 := F40.binds (ps := ["reader", "start"]) fun _ _ _ _ _ _ us hl => match us, hl with | [_, _], _ => rfl
  have F41 := fun_mk (st := s_law_cell) l41 c41 k41
  have b41 := F41.binds (ps := ["script", "k"]) fun _ _ _ _ _ _ us hl => match us, hl with | [_, _], _ => rfl
  have F42 := fun_mk (st := s_law_number) l42 c42 k42
  have b42 := F42.binds (ps := ["value"]) fun _ _ _ _ _ _ us hl => match us, hl with | [_], _ => rfl
  have F43 := fun_mk (st := s_law_crc) l43 c43 k43
  have b43 := F43.binds (ps := ["data"]) fun _ _ _ _ _ _ us hl => match us, hl with | [_], _ => rfl
  have F44 := fun_mk (st := s_law_code) l44 c44 k44
  have b44 := F44.binds (ps := ["table", "value"]) fun _ _ _ _ _ _ us hl => match us, hl with | [_, _], _ => rfl
  have F45 := fun_mk (st := s_law_near) l45 c45 k45
  have b45 := F45.binds (ps := ["cell", "table", "most"]) fun _ _ _ _ _ _ us hl => match us, hl with | [_, _, _], _ => rfl
  have F46 := fun_mk (st := s_law_size_form) l46 c46 k46
  have b46 := F46.binds (ps := ["size"]) fun _ _ _ _ _ _ us hl => match us, hl with | [_], _ => rfl
  have F47 := fun_mk (st := s_law_rate_form) l47 c47 k47
  have b47 := F47.binds (ps := ["hertz"]) fun _ _ _ _ _ _ us hl => match us, hl with | [_], _ => rfl
  have F48 := fun_mk (st := s_law_due) l48 c48 k48
  have b48 := F48.binds (ps := ["varies", "size", "hertz", "code", "deep", "index"]) fun _ _ _ _ _ _ us hl => match us, hl with | [_, _, _, _, _, _], _ => rfl
  have F49 := fun_mk (st := s_law) l49 c49 k49
  have b49 := F49.binds (ps := ["script"]) fun _ _ _ _ _ _ us hl => match us, hl with | [_], _ => rfl
  let T : TX K mg := ⟨f1, _, F1, b1, f2, _, F2, b2, f3, _, F3, b3, f4, _, F4, b4, f5, _, F5, e3_5, v3_5, b3_5, f6, _, F6, b6, f7, _, F7, b7, f8, _, F8, b8, f9, _, F9, b9, f10, _, F10, b10, f11, _, F11, e1_11, v1_11, b1_11, (PySem.W.mg_of X G a11), f12, _, F12, b12, (PySem.W.mg_of X G a12), f13, _, F13, b13, (PySem.W.mg_of X G a13), f14, _, F14, b14, (PySem.W.mg_of X G a14), f15, _, F15, b15, (PySem.W.mg_of X G a15), f16, _, F16, b16, (PySem.W.mg_of X G a16), f17, _, F17, b17, (PySem.W.mg_of X G a17), f18, _, F18, b18, (PySem.W.mg_of X G a18), f19, _, F19, b19, (PySem.W.mg_of X G a19), f20, _, F20, kb1_variable_block_size_rate_channels_assignment_depth_number_20, f21, _, F21, b21, f22, _, F22, b22, (PySem.W.mg_of X G a22), f23, _, F23, b23, (PySem.W.mg_of X G a23), f24, _, F24, b24, (PySem.W.mg_of X G a24), f25, _, F25, b25, (PySem.W.mg_of X G a25), f26, _, F26, b26, (PySem.W.mg_of X G a26), f27, _, F27, b27, (PySem.W.mg_of X G a27), f28, _, F28, b28, (PySem.W.mg_of X G a28), f29, _, F29, b29, (PySem.W.mg_of X G a29), f30, _, F30, b30, (PySem.W.mg_of X G a30), f31, _, F31, b31, (PySem.W.mg_of X G a31), f32, _, F32, b32, (PySem.W.mg_of X G a32), f33, _, F33, b33, (PySem.W.mg_of X G a33), f34, _, F34, b34, (PySem.W.mg_of X G a34), f35, _, F35, b35, (PySem.W.mg_of X G a35), f36, _, F36, b36, (PySem.W.mg_of X G a36), f37, _, F37, b37, (PySem.W.mg_of X G a37), f38, _, F38, b38, (PySem.W.mg_of X G a38), f39, _, F39, b39, (PySem.W.mg_of X G a39), f40, _, F40, b40, (PySem.W.mg_of X G a40), f41, _, F41, b41, (PySem.W.mg_of X G a41), f42, _, F42, b42, (PySem.W.mg_of X G a42), f43, _, F43, b43, (PySem.W.mg_of X G a43), f44, _, F44, b44, (PySem.W.mg_of X G a44), f45, _, F45, b45, (PySem.W.mg_of X G a45), f46, _, F46, b46, (PySem.W.mg_of X G a46), f47, _, F47, b47, (PySem.W.mg_of X G a47), f48, _, F48, b48, (PySem.W.mg_of X G a48), fa, _, F49, b49, (PySem.W.mg_of X G a49), C_BitWriter, ⟨pg_BitWriter, hd_BitWriter, po_BitWriter, sa_BitWriter⟩, (PySem.W.mg_of X G aC_BitWriter), ⟨mk_BitWriter, a1, i1, kc_BitWriter⟩, ⟨a2, i2, k2⟩, ⟨a3, i3, k3⟩, ⟨a4, i4, k4⟩, n_BitWriter_whole, n_BitWriter_held, n_BitWriter_held_bits, C_BitReader, ⟨pg_BitReader, hd_BitReader, po_BitReader, sa_BitReader⟩, (PySem.W.mg_of X G aC_BitReader), ⟨mk_BitReader, a5, i5, kc_BitReader⟩, ⟨a6, i6, k6⟩, ⟨a7, i7, k7⟩, ⟨a8, i8, k8⟩, ⟨a9, i9, k9⟩, ⟨a10, i10, k10⟩, n_BitReader_data, n_BitReader_position, C_FrameHeader, ⟨pg_FrameHeader, hd_FrameHeader, po_FrameHeader, sa_FrameHeader⟩, (PySem.W.mg_of X G aC_FrameHeader), ⟨mk_FrameHeader, a20, i20, kc_FrameHeader⟩, ⟨a21, i21, k21⟩, n_FrameHeader_variable, n_FrameHeader_block_size, n_FrameHeader_rate, n_FrameHeader_channels, n_FrameHeader_assignment, n_FrameHeader_depth, n_FrameHeader_number, ⟨ty_FrameHeaderha, ty_FrameHeaderhn, ty_FrameHeaderht, ty_FrameHeaderhm⟩, kit_self.1, kit_self.2, C_MonochordError, (PySem.W.mg_of X G aC_MonochordError), (PySem.W.mg_none_of X G z_list), (PySem.W.mg_none_of X G z_len), (PySem.W.mg_none_of X G z_range), (PySem.W.mg_none_of X G z_isinstance), (PySem.W.mg_none_of X G z_int), (PySem.W.mg_none_of X G z_max), (PySem.W.mg_none_of X G z_min), A_STEPS_8, (PySem.W.mg_of X G q_STEPS_8), (fun H => .inr ⟨_, _, _, l_STEPS_8, rfl, rfl, Nat.le_of_ble_eq_true rfl, (.cons r_STEPS_8_0 (.cons r_STEPS_8_1 (.cons r_STEPS_8_2 (.cons r_STEPS_8_3 (.cons r_STEPS_8_4 (.cons r_STEPS_8_5 (.cons r_STEPS_8_6 (.cons r_STEPS_8_7 (.cons r_STEPS_8_8 (.cons r_STEPS_8_9 (.cons r_STEPS_8_10 (.cons r_STEPS_8_11 (.cons r_STEPS_8_12 (.cons r_STEPS_8_13 (.cons r_STEPS_8_14 (.cons r_STEPS_8_15 .nil))))))))))))))))⟩), ⟨_, l_STEPS_8, rfl, rfl⟩, u_SYNC_CODE, (PySem.W.mg_of X G q_SYNC_CODE), r_SYNC_CODE, A_BLOCK_SIZES, (PySem.W.mg_of X G q_BLOCK_SIZES), (fun H => .inr ⟨_, _, _, l_BLOCK_SIZES, rfl, rfl, Nat.le_of_ble_eq_true rfl, (.cons r_BLOCK_SIZES_0 (.cons r_BLOCK_SIZES_1 (.cons r_BLOCK_SIZES_2 (.cons r_BLOCK_SIZES_3 (.cons r_BLOCK_SIZES_4 (.cons r_BLOCK_SIZES_5 (.cons r_BLOCK_SIZES_6 (.cons r_BLOCK_SIZES_7 (.cons r_BLOCK_SIZES_8 (.cons r_BLOCK_SIZES_9 (.cons r_BLOCK_SIZES_10 (.cons r_BLOCK_SIZES_11 (.cons r_BLOCK_SIZES_12 (.cons r_BLOCK_SIZES_13 (.cons r_BLOCK_SIZES_14 (.cons r_BLOCK_SIZES_15 .nil))))))))))))))))⟩), ⟨_, l_BLOCK_SIZES, rfl, rfl⟩, A_RATES, (PySem.W.mg_of X G q_RATES), (fun H => .inr ⟨_, _, _, l_RATES, rfl, rfl, Nat.le_of_ble_eq_true rfl, (.cons r_RATES_0 (.cons r_RATES_1 (.cons r_RATES_2 (.cons r_RATES_3 (.cons r_RATES_4 (.cons r_RATES_5 (.cons r_RATES_6 (.cons r_RATES_7 (.cons r_RATES_8 (.cons r_RATES_9 (.cons r_RATES_10 (.cons r_RATES_11 (.cons r_RATES_12 (.cons r_RATES_13 (.cons r_RATES_14 (.cons r_RATES_15 .nil))))))))))))))))⟩), ⟨_, l_RATES, rfl, rfl⟩, A_DEPTHS, (PySem.W.mg_of X G q_DEPTHS), (fun H => .inr ⟨_, _, _, l_DEPTHS, rfl, rfl, Nat.le_of_ble_eq_true rfl, (.cons r_DEPTHS_0 (.cons r_DEPTHS_1 (.cons r_DEPTHS_2 (.cons r_DEPTHS_3 (.cons r_DEPTHS_4 (.cons r_DEPTHS_5 (.cons r_DEPTHS_6 (.cons r_DEPTHS_7 .nil))))))))⟩), ⟨_, l_DEPTHS, rfl, rfl⟩, A_STEREO, (PySem.W.mg_of X G q_STEREO), (fun H => .inr ⟨_, _, _, l_STEREO, rfl, rfl, Nat.le_of_ble_eq_true rfl, (.cons r_STEREO_0 (.cons r_STEREO_1 (.cons r_STEREO_2 .nil)))⟩), ⟨_, l_STEREO, rfl, rfl⟩, u_MOST_BLOCK_SIZE, (PySem.W.mg_of X G q_MOST_BLOCK_SIZE), r_MOST_BLOCK_SIZE, u_MOST_FRAMES, (PySem.W.mg_of X G q_MOST_FRAMES), r_MOST_FRAMES, u_MOST_SAMPLES, (PySem.W.mg_of X G q_MOST_SAMPLES), r_MOST_SAMPLES⟩
  exact ⟨_, fun s v => .of_eq rfl, fun base _ _ => ok_law T⟩
end K30
open PySem PySem.W PyProof.Rows
set_option maxRecDepth 100000 in
set_option maxHeartbeats 0 in
theorem PySem.Challenge.cw_monochord_k30_write_a_header_holds : PySem.Challenge.rw_monochord_k30_write_a_header.Holds := by
  w_on; o_law; k_head; (case hw => w_witness2)
  k_fill
  refine L2.walk_of (l := PySem.Challenge.rw_monochord_k30_write_a_header) (n := 63) (k := 7) (x := "script") (CX := fun _ => L2.CX0) (sp := fun w => K30.sp_law _) rfl (by decide) rfl ⟨rfl, by decide, by decide⟩ (fun w h Y => PySem.W.kIn_of Y) ?F (fun _ _ a ns hl _ hS => ⟨a, ns, rfl, hS, hl, fun _ => rfl⟩) (fun _ _ _ _ _ h => h)
  case F =>
    intro w mg fa h KX G hmg
    refine' K30.all_mk KX G hmg ?a1 ?i1 ?l1 ?c1 ?k1 ?a2 ?i2 ?l2 ?c2 ?k2 ?a3 ?i3 ?l3 ?c3 ?k3 ?a4 ?i4 ?l4 ?c4 ?k4 ?a5 ?i5 ?l5 ?c5 ?k5 ?t5 ?rd5_0 ?a6 ?i6 ?l6 ?c6 ?k6 ?a7 ?i7 ?l7 ?c7 ?k7 ?a8 ?i8 ?l8 ?c8 ?k8 ?a9 ?i9 ?l9 ?c9 ?k9 ?a10 ?i10 ?l10 ?c10 ?k10 ?a11 ?l11 ?c11 ?k11 ?t11 ?rd11_0 ?a12 ?l12 ?c12 ?k12 ?a13 ?l13 ?c13 ?k13 ?a14 ?l14 ?c14 ?k14 ?a15 ?l15 ?c15 ?k15 ?a16 ?l16 ?c16 ?k16 ?a17 ?l17 ?c17 ?k17 ?a18 ?l18 ?c18 ?k18 ?a19 ?l19 ?c19 ?k19 ?a20 ?i20 ?l20 ?c20 ?k20 ?a21 ?i21 ?l21 ?c21 ?k21 ?a22 ?l22 ?c22 ?k22 ?a23 ?l23 ?c23 ?k23 ?a24 ?l24 ?c24 ?k24 ?a25 ?l25 ?c25 ?k25 ?a26 ?l26 ?c26 ?k26 ?a27 ?l27 ?c27 ?k27 ?a28 ?l28 ?c28 ?k28 ?a29 ?l29 ?c29 ?k29 ?a30 ?l30 ?c30 ?k30 ?a31 ?l31 ?c31 ?k31 ?a32 ?l32 ?c32 ?k32 ?a33 ?l33 ?c33 ?k33 ?a34 ?l34 ?c34 ?k34 ?a35 ?l35 ?c35 ?k35 ?a36 ?l36 ?c36 ?k36 ?a37 ?l37 ?c37 ?k37 ?a38 ?l38 ?c38 ?k38 ?a39 ?l39 ?c39 ?k39 ?a40 ?l40 ?c40 ?k40 ?a41 ?l41 ?c41 ?k41 ?a42 ?l42 ?c42 ?k42 ?a43 ?l43 ?c43 ?k43 ?a44 ?l44 ?c44 ?k44 ?a45 ?l45 ?c45 ?k45 ?a46 ?l46 ?c46 ?k46 ?a47 ?l47 ?c47 ?k47 ?a48 ?l48 ?c48 ?k48 ?a49 ?l49 ?c49 ?k49 ?aC_BitWriter ?pg_BitWriter ?hd_BitWriter ?po_BitWriter ?sa_BitWriter ?mk_BitWriter ?kc_BitWriter ?n_BitWriter_whole ?n_BitWriter_held ?n_BitWriter_held_bits ?aC_BitReader ?pg_BitReader ?hd_BitReader ?po_BitReader ?sa_BitReader ?mk_BitReader ?kc_BitReader ?n_BitReader_data ?n_BitReader_position ?aC_FrameHeader ?pg_FrameHeader ?hd_FrameHeader ?po_FrameHeader ?sa_FrameHeader ?mk_FrameHeader ?kc_FrameHeader ?n_FrameHeader_variable ?n_FrameHeader_block_size ?n_FrameHeader_rate ?n_FrameHeader_channels ?n_FrameHeader_assignment ?n_FrameHeader_depth ?n_FrameHeader_number ?ty_FrameHeaderha ?ty_FrameHeaderhn ?ty_FrameHeaderht ?ty_FrameHeaderhm ?yt_FrameHeader ?yz_FrameHeader ?aC_MonochordError ?z_list ?z_len ?z_range ?z_isinstance ?z_int ?z_max ?z_min ?q_STEPS_8 ?l_STEPS_8 ?r_STEPS_8_0 ?r_STEPS_8_1 ?r_STEPS_8_2 ?r_STEPS_8_3 ?r_STEPS_8_4 ?r_STEPS_8_5 ?r_STEPS_8_6 ?r_STEPS_8_7 ?r_STEPS_8_8 ?r_STEPS_8_9 ?r_STEPS_8_10 ?r_STEPS_8_11 ?r_STEPS_8_12 ?r_STEPS_8_13 ?r_STEPS_8_14 ?r_STEPS_8_15 ?q_SYNC_CODE ?r_SYNC_CODE ?q_BLOCK_SIZES ?l_BLOCK_SIZES ?r_BLOCK_SIZES_0 ?r_BLOCK_SIZES_1 ?r_BLOCK_SIZES_2 ?r_BLOCK_SIZES_3 ?r_BLOCK_SIZES_4 ?r_BLOCK_SIZES_5 ?r_BLOCK_SIZES_6 ?r_BLOCK_SIZES_7 ?r_BLOCK_SIZES_8 ?r_BLOCK_SIZES_9 ?r_BLOCK_SIZES_10 ?r_BLOCK_SIZES_11 ?r_BLOCK_SIZES_12 ?r_BLOCK_SIZES_13 ?r_BLOCK_SIZES_14 ?r_BLOCK_SIZES_15 ?q_RATES ?l_RATES ?r_RATES_0 ?r_RATES_1 ?r_RATES_2 ?r_RATES_3 ?r_RATES_4 ?r_RATES_5 ?r_RATES_6 ?r_RATES_7 ?r_RATES_8 ?r_RATES_9 ?r_RATES_10 ?r_RATES_11 ?r_RATES_12 ?r_RATES_13 ?r_RATES_14 ?r_RATES_15 ?q_DEPTHS ?l_DEPTHS ?r_DEPTHS_0 ?r_DEPTHS_1 ?r_DEPTHS_2 ?r_DEPTHS_3 ?r_DEPTHS_4 ?r_DEPTHS_5 ?r_DEPTHS_6 ?r_DEPTHS_7 ?q_STEREO ?l_STEREO ?r_STEREO_0 ?r_STEREO_1 ?r_STEREO_2 ?q_MOST_BLOCK_SIZE ?r_MOST_BLOCK_SIZE ?q_MOST_FRAMES ?r_MOST_FRAMES ?q_MOST_SAMPLES ?r_MOST_SAMPLES
    (case aC_BitWriter => k_is)
    (case aC_BitReader => k_is)
    (case aC_FrameHeader => k_is)
    (case aC_MonochordError => k_is)
    (case a1 => k_is)
    (case i1 => k_is)
    (case l1 => k_is)
    (case c1 => k_is)
    (case k1 => k_is)
    (case a2 => k_is)
    (case i2 => k_is)
    (case l2 => k_is)
    (case c2 => k_is)
    (case k2 => k_is)
    (case a3 => k_is)
    (case i3 => k_is)
    (case l3 => k_is)
    (case c3 => k_is)
    (case k3 => k_is)
    (case a4 => k_is)
    (case i4 => k_is)
    (case l4 => k_is)
    (case c4 => k_is)
    (case k4 => k_is)
    (case a5 => k_is)
    (case i5 => k_is)
    (case l5 => k_is)
    (case c5 => k_is)
    (case k5 => k_is)
    (case t5 => k_is)
    (case rd5_0 => first | rfl | exact ⟨_, rfl⟩)
    (case a6 => k_is)
    (case i6 => k_is)
    (case l6 => k_is)
    (case c6 => k_is)
    (case k6 => k_is)
    (case a7 => k_is)
    (case i7 => k_is)
    (case l7 => k_is)
    (case c7 => k_is)
    (case k7 => k_is)
    (case a8 => k_is)
    (case i8 => k_is)
    (case l8 => k_is)
    (case c8 => k_is)
    (case k8 => k_is)
    (case a9 => k_is)
    (case i9 => k_is)
    (case l9 => k_is)
    (case c9 => k_is)
    (case k9 => k_is)
    (case a10 => k_is)
    (case i10 => k_is)
    (case l10 => k_is)
    (case c10 => k_is)
    (case k10 => k_is)
    (case a11 => k_is)
    (case l11 => k_is)
    (case c11 => k_is)
    (case k11 => k_is)
    (case t11 => k_is)
    (case rd11_0 => first | rfl | exact ⟨_, rfl⟩)
    (case a12 => k_is)
    (case l12 => k_is)
    (case c12 => k_is)
    (case k12 => k_is)
    (case a13 => k_is)
    (case l13 => k_is)
    (case c13 => k_is)
    (case k13 => k_is)
    (case a14 => k_is)
    (case l14 => k_is)
    (case c14 => k_is)
    (case k14 => k_is)
    (case a15 => k_is)
    (case l15 => k_is)
    (case c15 => k_is)
    (case k15 => k_is)
    (case a16 => k_is)
    (case l16 => k_is)
    (case c16 => k_is)
    (case k16 => k_is)
    (case a17 => k_is)
    (case l17 => k_is)
    (case c17 => k_is)
    (case k17 => k_is)
    (case a18 => k_is)
    (case l18 => k_is)
    (case c18 => k_is)
    (case k18 => k_is)
    (case a19 => k_is)
    (case l19 => k_is)
    (case c19 => k_is)
    (case k19 => k_is)
    (case a20 => k_is)
    (case i20 => k_is)
    (case l20 => k_is)
    (case c20 => k_is)
    (case k20 => k_is)
    (case a21 => k_is)
    (case i21 => k_is)
    (case l21 => k_is)
    (case c21 => k_is)
    (case k21 => k_is)
    (case a22 => k_is)
    (case l22 => k_is)
    (case c22 => k_is)
    (case k22 => k_is)
    (case a23 => k_is)
    (case l23 => k_is)
    (case c23 => k_is)
    (case k23 => k_is)
    (case a24 => k_is)
    (case l24 => k_is)
    (case c24 => k_is)
    (case k24 => k_is)
    (case a25 => k_is)
    (case l25 => k_is)
    (case c25 => k_is)
    (case k25 => k_is)
    (case a26 => k_is)
    (case l26 => k_is)
    (case c26 => k_is)
    (case k26 => k_is)
    (case a27 => k_is)
    (case l27 => k_is)
    (case c27 => k_is)
    (case k27 => k_is)
    (case a28 => k_is)
    (case l28 => k_is)
    (case c28 => k_is)
    (case k28 => k_is)
    (case a29 => k_is)
    (case l29 => k_is)
    (case c29 => k_is)
    (case k29 => k_is)
    (case a30 => k_is)
    (case l30 => k_is)
    (case c30 => k_is)
    (case k30 => k_is)
    (case a31 => k_is)
    (case l31 => k_is)
    (case c31 => k_is)
    (case k31 => k_is)
    (case a32 => k_is)
    (case l32 => k_is)
    (case c32 => k_is)
    (case k32 => k_is)
    (case a33 => k_is)
    (case l33 => k_is)
    (case c33 => k_is)
    (case k33 => k_is)
    (case a34 => k_is)
    (case l34 => k_is)
    (case c34 => k_is)
    (case k34 => k_is)
    (case a35 => k_is)
    (case l35 => k_is)
    (case c35 => k_is)
    (case k35 => k_is)
    (case a36 => k_is)
    (case l36 => k_is)
    (case c36 => k_is)
    (case k36 => k_is)
    (case a37 => k_is)
    (case l37 => k_is)
    (case c37 => k_is)
    (case k37 => k_is)
    (case a38 => k_is)
    (case l38 => k_is)
    (case c38 => k_is)
    (case k38 => k_is)
    (case a39 => k_is)
    (case l39 => k_is)
    (case c39 => k_is)
    (case k39 => k_is)
    (case a40 => k_is)
    (case l40 => k_is)
    (case c40 => k_is)
    (case k40 => k_is)
    (case a41 => k_is)
    (case l41 => k_is)
    (case c41 => k_is)
    (case k41 => k_is)
    (case a42 => k_is)
    (case l42 => k_is)
    (case c42 => k_is)
    (case k42 => k_is)
    (case a43 => k_is)
    (case l43 => k_is)
    (case c43 => k_is)
    (case k43 => k_is)
    (case a44 => k_is)
    (case l44 => k_is)
    (case c44 => k_is)
    (case k44 => k_is)
    (case a45 => k_is)
    (case l45 => k_is)
    (case c45 => k_is)
    (case k45 => k_is)
    (case a46 => k_is)
    (case l46 => k_is)
    (case c46 => k_is)
    (case k46 => k_is)
    (case a47 => k_is)
    (case l47 => k_is)
    (case c47 => k_is)
    (case k47 => k_is)
    (case a48 => k_is)
    (case l48 => k_is)
    (case c48 => k_is)
    (case k48 => k_is)
    (case a49 => k_is)
    (case l49 => k_is)
    (case c49 => k_is)
    (case k49 => k_is)
    (case pg_BitWriter => k_is)
    (case hd_BitWriter => k_is)
    (case po_BitWriter => k_is)
    (case sa_BitWriter => k_is)
    (case mk_BitWriter => k_is)
    (case kc_BitWriter => k_is)
    (case n_BitWriter_whole => k_is)
    (case n_BitWriter_held => k_is)
    (case n_BitWriter_held_bits => k_is)
    (case pg_BitReader => k_is)
    (case hd_BitReader => k_is)
    (case po_BitReader => k_is)
    (case sa_BitReader => k_is)
    (case mk_BitReader => k_is)
    (case kc_BitReader => k_is)
    (case n_BitReader_data => k_is)
    (case n_BitReader_position => k_is)
    (case pg_FrameHeader => k_is)
    (case hd_FrameHeader => k_is)
    (case po_FrameHeader => k_is)
    (case sa_FrameHeader => k_is)
    (case mk_FrameHeader => k_is)
    (case kc_FrameHeader => k_is)
    (case n_FrameHeader_variable => k_is)
    (case n_FrameHeader_block_size => k_is)
    (case n_FrameHeader_rate => k_is)
    (case n_FrameHeader_channels => k_is)
    (case n_FrameHeader_assignment => k_is)
    (case n_FrameHeader_depth => k_is)
    (case n_FrameHeader_number => k_is)
    (case ty_FrameHeaderha => k_is)
    (case ty_FrameHeaderhn => k_is)
    (case ty_FrameHeaderht => k_is)
    (case ty_FrameHeaderhm => k_is)
    (case yt_FrameHeader => k_is)
    (case yz_FrameHeader => k_is)
    (case z_list => k_is)
    (case z_len => k_is)
    (case z_range => k_is)
    (case z_isinstance => k_is)
    (case z_int => k_is)
    (case z_max => k_is)
    (case z_min => k_is)
    (case q_STEPS_8 => k_is)
    (case l_STEPS_8 => k_is)
    (case r_STEPS_8_0 => first | rfl | exact ⟨_, rfl⟩)
    (case r_STEPS_8_1 => first | rfl | exact ⟨_, rfl⟩)
    (case r_STEPS_8_2 => first | rfl | exact ⟨_, rfl⟩)
    (case r_STEPS_8_3 => first | rfl | exact ⟨_, rfl⟩)
    (case r_STEPS_8_4 => first | rfl | exact ⟨_, rfl⟩)
    (case r_STEPS_8_5 => first | rfl | exact ⟨_, rfl⟩)
    (case r_STEPS_8_6 => first | rfl | exact ⟨_, rfl⟩)
    (case r_STEPS_8_7 => first | rfl | exact ⟨_, rfl⟩)
    (case r_STEPS_8_8 => first | rfl | exact ⟨_, rfl⟩)
    (case r_STEPS_8_9 => first | rfl | exact ⟨_, rfl⟩)
    (case r_STEPS_8_10 => first | rfl | exact ⟨_, rfl⟩)
    (case r_STEPS_8_11 => first | rfl | exact ⟨_, rfl⟩)
    (case r_STEPS_8_12 => first | rfl | exact ⟨_, rfl⟩)
    (case r_STEPS_8_13 => first | rfl | exact ⟨_, rfl⟩)
    (case r_STEPS_8_14 => first | rfl | exact ⟨_, rfl⟩)
    (case r_STEPS_8_15 => first | rfl | exact ⟨_, rfl⟩)
    (case q_SYNC_CODE => k_is)
    (case r_SYNC_CODE => first | rfl | exact ⟨_, rfl⟩)
    (case q_BLOCK_SIZES => k_is)
    (case l_BLOCK_SIZES => k_is)
    (case r_BLOCK_SIZES_0 => first | rfl | exact ⟨_, rfl⟩)
    (case r_BLOCK_SIZES_1 => first | rfl | exact ⟨_, rfl⟩)
    (case r_BLOCK_SIZES_2 => first | rfl | exact ⟨_, rfl⟩)
    (case r_BLOCK_SIZES_3 => first | rfl | exact ⟨_, rfl⟩)
    (case r_BLOCK_SIZES_4 => first | rfl | exact ⟨_, rfl⟩)
    (case r_BLOCK_SIZES_5 => first | rfl | exact ⟨_, rfl⟩)
    (case r_BLOCK_SIZES_6 => first | rfl | exact ⟨_, rfl⟩)
    (case r_BLOCK_SIZES_7 => first | rfl | exact ⟨_, rfl⟩)
    (case r_BLOCK_SIZES_8 => first | rfl | exact ⟨_, rfl⟩)
    (case r_BLOCK_SIZES_9 => first | rfl | exact ⟨_, rfl⟩)
    (case r_BLOCK_SIZES_10 => first | rfl | exact ⟨_, rfl⟩)
    (case r_BLOCK_SIZES_11 => first | rfl | exact ⟨_, rfl⟩)
    (case r_BLOCK_SIZES_12 => first | rfl | exact ⟨_, rfl⟩)
    (case r_BLOCK_SIZES_13 => first | rfl | exact ⟨_, rfl⟩)
    (case r_BLOCK_SIZES_14 => first | rfl | exact ⟨_, rfl⟩)
    (case r_BLOCK_SIZES_15 => first | rfl | exact ⟨_, rfl⟩)
    (case q_RATES => k_is)
    (case l_RATES => k_is)
    (case r_RATES_0 => first | rfl | exact ⟨_, rfl⟩)
    (case r_RATES_1 => first | rfl | exact ⟨_, rfl⟩)
    (case r_RATES_2 => first | rfl | exact ⟨_, rfl⟩)
    (case r_RATES_3 => first | rfl | exact ⟨_, rfl⟩)
    (case r_RATES_4 => first | rfl | exact ⟨_, rfl⟩)
    (case r_RATES_5 => first | rfl | exact ⟨_, rfl⟩)
    (case r_RATES_6 => first | rfl | exact ⟨_, rfl⟩)
    (case r_RATES_7 => first | rfl | exact ⟨_, rfl⟩)
    (case r_RATES_8 => first | rfl | exact ⟨_, rfl⟩)
    (case r_RATES_9 => first | rfl | exact ⟨_, rfl⟩)
    (case r_RATES_10 => first | rfl | exact ⟨_, rfl⟩)
    (case r_RATES_11 => first | rfl | exact ⟨_, rfl⟩)
    (case r_RATES_12 => first | rfl | exact ⟨_, rfl⟩)
    (case r_RATES_13 => first | rfl | exact ⟨_, rfl⟩)
    (case r_RATES_14 => first | rfl | exact ⟨_, rfl⟩)
    (case r_RATES_15 => first | rfl | exact ⟨_, rfl⟩)
    (case q_DEPTHS => k_is)
    (case l_DEPTHS => k_is)
    (case r_DEPTHS_0 => first | rfl | exact ⟨_, rfl⟩)
    (case r_DEPTHS_1 => first | rfl | exact ⟨_, rfl⟩)
    (case r_DEPTHS_2 => first | rfl | exact ⟨_, rfl⟩)
    (case r_DEPTHS_3 => first | rfl | exact ⟨_, rfl⟩)
    (case r_DEPTHS_4 => first | rfl | exact ⟨_, rfl⟩)
    (case r_DEPTHS_5 => first | rfl | exact ⟨_, rfl⟩)
    (case r_DEPTHS_6 => first | rfl | exact ⟨_, rfl⟩)
    (case r_DEPTHS_7 => first | rfl | exact ⟨_, rfl⟩)
    (case q_STEREO => k_is)
    (case l_STEREO => k_is)
    (case r_STEREO_0 => first | rfl | exact ⟨_, rfl⟩)
    (case r_STEREO_1 => first | rfl | exact ⟨_, rfl⟩)
    (case r_STEREO_2 => first | rfl | exact ⟨_, rfl⟩)
    (case q_MOST_BLOCK_SIZE => k_is)
    (case r_MOST_BLOCK_SIZE => first | rfl | exact ⟨_, rfl⟩)
    (case q_MOST_FRAMES => k_is)
    (case r_MOST_FRAMES => first | rfl | exact ⟨_, rfl⟩)
    (case q_MOST_SAMPLES => k_is)
    (case r_MOST_SAMPLES => first | rfl | exact ⟨_, rfl⟩)
