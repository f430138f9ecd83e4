import PyProof.Rows.All
import Wide.All
import OpenK.AllK
import Wide.FinOn
import HandS.ForMost
import HandS.Evl
import HandS.IsInst
import PySem.Challenge.RW_monochord_k15_fold_and_unfold
set_option Elab.async false
set_option linter.all false
set_option maxRecDepth 100000
set_option maxHeartbeats 4000000
namespace K15
open PySem PySem.Spec PyProof.Rows L2 Evl
def topS (i : Nat) : Stmt := PySem.Challenge.pw_monochord_k15_fold_and_unfold.main.body.getD i (.Pass ⟨0, 0, 0, 0⟩)
abbrev s_fold : Stmt := topS 1
theorem sc_fold : FnScope ["n"] ["n"] (defScope s_fold) := ⟨rfl, rfl, rfl, by decide +kernel, rfl, by decide +kernel, by decide +kernel⟩
abbrev s_unfold : Stmt := topS 2
theorem sc_unfold : FnScope ["u"] ["u"] (defScope s_unfold) := ⟨rfl, rfl, rfl, by decide +kernel, rfl, by decide +kernel, by decide +kernel⟩
abbrev s_law_is_integer : Stmt := topS 4
theorem sc_law_is_integer : FnScope ["actual"] ["actual"] (defScope s_law_is_integer) := ⟨rfl, rfl, rfl, by decide +kernel, rfl, by decide +kernel, by decide +kernel⟩
abbrev s_law : Stmt := topS 5
theorem sc_law : FnScope ["script", "values", "cell", "origins", "n", "expected", "actual", "back", "size"] ["script"] (defScope s_law) := ⟨rfl, rfl, rfl, by decide +kernel, rfl, by decide +kernel, by decide +kernel⟩
theorem hu64 {A : Around} {k : Nat} (hr : Room k A) : A.units + 64 < cLine := hr.units
/-! ### short words for readings -/
theorem ret_eq {v w : V} {H H' : Hp} {Q : VK} (k : RetV v H Q) (ex : Ex H H') (e : w = v) : Q w H' := e ▸ k H' ex
/-- isinstance(x, T), T a built-in class -/
theorem ev_isi {K : PySem.W.Frag} {σ : L2.St} {H : Hp} {ta : TE} {x : V} {t : String} {T : String} {b : Bool} (ha : Ev ta σ H x) (ht : ∀ H1, Ex H H1 → TyX K H1 x (.type t)) (hk : kitB t T = some b) :
    Ev (tCB (rIsi K) (tCons ta (tCons (tC (.ty T)) tNil))) σ H (.bl b) :=
  ev_cb (ea_cons ha (ea_cons ev_c ea_nil)) fun H1 e Q q => ⟨x, .ty T, _, _, b, rfl, .ty T, ht H1 e, kit_ty hk, q H1 (Ex.refl H1)⟩
theorem isi_int {K : PySem.W.Frag} {H : Hp} {i : Int} : ∀ H1, Ex H H1 → TyX K H1 (V.int i) (.type "int") := fun _ _ => .base (.int _)
theorem isi_bl {K : PySem.W.Frag} {H : Hp} {b : Bool} : ∀ H1, Ex H H1 → TyX K H1 (V.bl b) (.type "bool") := fun _ _ => .base (.bl _)
theorem isi_non {K : PySem.W.Frag} {H : Hp} : ∀ H1, Ex H H1 → TyX K H1 V.non (.type "NoneType") := fun _ _ => .base .non
theorem isi_lst {K : PySem.W.Frag} {H : Hp} {a : Addr} {xs : List V} (h : H a = some (.lst xs)) : ∀ H1, Ex H H1 → TyX K H1 (V.ref a) (.type "list") := fun _ e => .base (.lst (e _ _ h))
theorem isi_tup {K : PySem.W.Frag} {H : Hp} {a : Addr} {xs : List V} (h : H a = some (.tup xs)) : ∀ H1, Ex H H1 → TyX K H1 (V.ref a) (.type "tuple") := fun _ e => .base (.tup (e _ _ h))
theorem kit_ii : kitB "int" "int" = some true := by decide +kernel
theorem kit_ib : kitB "int" "bool" = some false := by decide +kernel
theorem kit_bb : kitB "bool" "bool" = some true := by decide +kernel
theorem kit_bi : kitB "bool" "int" = some true := by decide +kernel
theorem kit_ll : kitB "list" "list" = some true := by decide +kernel
theorem kit_tt : kitB "tuple" "tuple" = some true := by decide +kernel
theorem ev_isiI {K : PySem.W.Frag} {σ : L2.St} {H : Hp} {ta : TE} {i : Int} (ha : Ev ta σ H (.int i)) : Ev (tCB (rIsi K) (tCons ta (tCons (tC (.ty "int")) tNil))) σ H (.bl true) := ev_isi ha isi_int kit_ii
theorem ev_isiB {K : PySem.W.Frag} {σ : L2.St} {H : Hp} {ta : TE} {i : Int} (ha : Ev ta σ H (.int i)) : Ev (tCB (rIsi K) (tCons ta (tCons (tC (.ty "bool")) tNil))) σ H (.bl false) := ev_isi ha isi_int kit_ib
theorem ev_isiL {K : PySem.W.Frag} {σ : L2.St} {H : Hp} {ta : TE} {a : Addr} {xs : List V} (ha : Ev ta σ H (.ref a)) (h : H a = some (.lst xs)) : Ev (tCB (rIsi K) (tCons ta (tCons (tC (.ty "list")) tNil))) σ H (.bl true) := ev_isi ha (isi_lst h) kit_ll
theorem ev_isiBB {K : PySem.W.Frag} {σ : L2.St} {H : Hp} {ta : TE} {b : Bool} (ha : Ev ta σ H (.bl b)) : Ev (tCB (rIsi K) (tCons ta (tCons (tC (.ty "bool")) tNil))) σ H (.bl true) := ev_isi ha isi_bl kit_bb
theorem ev_min2 {σ : L2.St} {H : Hp} {ta tb : TE} {i j : Int} (ha : Ev ta σ H (.int i)) (hb : Ev tb σ H (.int j)) :
    Ev (tCB (fun xs H Q => ∃ i j, xs = [.int i, .int j] ∧ Q (.int (if j < i then j else i)) H) (tCons ta (tCons tb tNil))) σ H (.int (if j < i then j else i)) :=
  ev_cb (ea_cons ha (ea_cons hb ea_nil)) fun H1 _ _ q => ⟨i, j, rfl, q H1 (Ex.refl H1)⟩
theorem ev_negI {σ : L2.St} {H : Hp} {ta : TE} {i : Int} (ha : Ev ta σ H (.int i)) : Ev (tUn (rU fun i => .int (-i)) ta) σ H (.int (-i)) := ev_un ha ru_neg
theorem ev_I0 {σ : L2.St} {H : Hp} {ta tb : TE} {g : Int → Int → V} {i j : Int} (ha : Ev ta σ H (.int i)) (hb : Ev tb σ H (.int j)) : Ev (tOp (rI0 g) ta tb) σ H (g i j) := ev_op ha hb rv_I0
theorem ev_I {σ : L2.St} {H : Hp} {ta tb : TE} {C : Int → Int → Prop} {g : Int → Int → V} {i j : Int} (ha : Ev ta σ H (.int i)) (hb : Ev tb σ H (.int j)) (hc : C i j) : Ev (tOp (rI C g) ta tb) σ H (g i j) := ev_op ha hb (rv_I hc)
theorem ev_eq {σ : L2.St} {H : Hp} {ta tb : TE} {x y : V} (ha : Ev ta σ H x) (hb : Ev tb σ H y) (hs : scal x y = true) : Ev (tOp rEq ta tb) σ H (.bl (decide (x = y))) := ev_op ha hb (rv_eq hs)
theorem ev_ne {σ : L2.St} {H : Hp} {ta tb : TE} {x y : V} (ha : Ev ta σ H x) (hb : Ev tb σ H y) (hs : scal x y = true) : Ev (tOp rNe ta tb) σ H (.bl (!decide (x = y))) := ev_op ha hb (rv_ne hs)
theorem et_B' {σ : L2.St} {H : Hp} {te : TE} {x : V} {b : Bool} (h : Ev te σ H x) (e : x = .bl b) : EvT (tB te) σ H b := et_B (e ▸ h)
theorem int_at {ns : List Int} {i : Nat} {x : V} (hx : (ns.map V.int)[i]? = some x) : ∃ n, ns[i]? = some n ∧ i < ns.length ∧ x = V.int n := by
  rw [List.getElem?_map] at hx
  cases en : ns[i]? with
  | none => rw [en] at hx; cases hx
  | some n => rw [en] at hx; exact ⟨n, rfl, (List.getElem?_eq_some_iff.mp en).1, (Option.some.inj hx).symm⟩
theorem at_int {ns : List Int} {i : Nat} {n : Int} (h : ns[i]? = some n) : (ns.map V.int)[i]? = some (V.int n) := by rw [List.getElem?_map, h]; rfl
local macro_rules | `(tactic| walk_at "side") => `(tactic| first
  | omega | (show CMul _ _; unfold CMul; omega) | (show CDiv _ _; unfold CDiv; omega) | (show CPow _ _; unfold CPow; omega) | (show (_ : Int) < _; omega) | (show (_ : Int) ≤ _; omega) | decide)
local macro_rules | `(tactic| walk_at "ev") => `(tactic| first
  | exact ev_var rfl
  | exact ev_c
  | (refine' ev_I0 ?h1 ?h2; (case h1 => walk_at "ev"); (case h2 => walk_at "ev"))
  | (refine' ev_negI ?h1; (case h1 => walk_at "ev"))
  | (refine' ev_I ?h1 ?h2 ?hc; (case h1 => walk_at "ev"); (case h2 => walk_at "ev"); (case hc => walk_at "side"))
  | (refine' ev_eq ?h1 ?h2 ?hc; (case h1 => walk_at "ev"); (case h2 => walk_at "ev"); (case hc => rfl))
  | (refine' ev_ne ?h1 ?h2 ?hc; (case h1 => walk_at "ev"); (case h2 => walk_at "ev"); (case hc => rfl))
  | (refine' ev_max2 ?h1 ?h2; (case h1 => walk_at "ev"); (case h2 => walk_at "ev"))
  | (refine' ev_min2 ?h1 ?h2; (case h1 => walk_at "ev"); (case h2 => walk_at "ev"))
  | (refine' ev_isiI ?h1; (case h1 => walk_at "ev"))
  | (refine' ev_isiB ?h1; (case h1 => walk_at "ev"))
  | (refine' ev_isiBB ?h1; (case h1 => walk_at "ev"))
  | (refine' ev_andV ?h1 (fun _ => ?h2); (case h1 => walk_at "ev"); (case h2 => walk_at "ev"))
  | (refine' ev_orV ?h1 (fun _ => ?h2); (case h1 => walk_at "ev"); (case h2 => walk_at "ev"))
  | (refine' ev_notV ?h1; (case h1 => walk_at "ev"))
  | walk_at "evmore")
local macro_rules | `(tactic| walk_at "et") => `(tactic| first
  | (refine' et_test ?h1; (case h1 => walk_at "ev"))
  | (refine' et_B ?h1; (case h1 => walk_at "ev"))
  | (refine' et_not ?h1; (case h1 => walk_at "et"))
  | (refine' et_and ?h1 (fun _ => ?h2); (case h1 => walk_at "et"); (case h2 => walk_at "et"))
  | (refine' et_or ?h1 (fun _ => ?h2); (case h1 => walk_at "et"); (case h2 => walk_at "et")))
local macro_rules | `(tactic| walk_at "ea") => `(tactic| first
  | exact ea_nil
  | (refine' ea_cons ?h1 ?h2; (case h1 => walk_at "ev"); (case h2 => walk_at "ea")))
local macro_rules | `(tactic| walk_at "when") => `(tactic| (refine' q_when ?h ?h1 ?h2; (case h => walk_at "et")))
local macro_rules | `(tactic| walk_at "whenS") => `(tactic| (refine' s_when ?h ?h1 ?h2; (case h => walk_at "et")))
local macro_rules | `(tactic| walk_at "if") => `(tactic| (refine' q_if ?h ?h1 ?h2; (case h => walk_at "et")))
local macro_rules | `(tactic| walk_at "ifS") => `(tactic| (refine' s_if ?h ?h1 ?h2; (case h => walk_at "et")))
local macro_rules | `(tactic| walk_at "ret") => `(tactic| (refine' s_ret ?h ?h1; (case h => walk_at "ev")))
local macro_rules | `(tactic| walk_at "asg") => `(tactic| (refine' q_asg ?h ?h1; (case h => walk_at "ev")))
local macro_rules | `(tactic| walk_at "asgS") => `(tactic| (refine' s_asg ?h ?h1; (case h => walk_at "ev")))

/-- what the top has left -/
structure TX (K : PySem.W.Frag) (mg : Str → Option Value) where
  a_fold : Addr
  d_fold : FuncData
  F_fold : Fun K "fold" "fold" s_fold a_fold d_fold
  b_fold : Binds K d_fold ["n"] []
  g_fold : mg "fold" = some (.ref a_fold)
  a_unfold : Addr
  d_unfold : FuncData
  F_unfold : Fun K "unfold" "unfold" s_unfold a_unfold d_unfold
  b_unfold : Binds K d_unfold ["u"] []
  g_unfold : mg "unfold" = some (.ref a_unfold)
  a_law_is_integer : Addr
  d_law_is_integer : FuncData
  F_law_is_integer : Fun K "_law_is_integer" "_law_is_integer" s_law_is_integer a_law_is_integer d_law_is_integer
  b_law_is_integer : Binds K d_law_is_integer ["actual"] []
  g_law_is_integer : mg "_law_is_integer" = some (.ref a_law_is_integer)
  a_law : Addr
  d_law : FuncData
  F_law : Fun K "law" "law" s_law a_law d_law
  b_law : Binds K d_law ["script"] []
  g_law : mg "law" = some (.ref a_law)
  m_isinstance : mg "isinstance" = none
  m_int : mg "int" = none
  m_bool : mg "bool" = none
  m_max : mg "max" = none
section
variable {P : Program} {w : World} {K : PySem.W.Frag} {mg : Str → Option Value} {base : Heap}
def foldI (n : Int) : Int := if n < 0 then -2 * n - 1 else 2 * n
def unfoldI (u : Int) : Int := if u % 2 = 0 then u / 2 else -(u / 2) - 1
theorem foldI_inj {a b : Int} (h : foldI a = foldI b) : a = b := by
  unfold foldI at h
  split at h <;> split at h <;> omega
theorem unfold_fold (n : Int) : unfoldI (foldI n) = n := by
  unfold unfoldI foldI
  split <;> split <;> omega
theorem fold_unfold {u : Int} (h : 0 ≤ u) : foldI (unfoldI u) = u := by
  unfold unfoldI foldI
  split <;> split <;> omega
def sp_fold : Sp := fun vs H Q _ => ∃ n : Int, vs = [.int n] ∧ RetV (.int (foldI n)) H Q
theorem ok_fold (T : TX K mg) : FnOk P w K mg base CX0 1 T.a_fold T.d_fold ["n"] sp_fold := by
  refine T.F_fold.ok sc_fold (fun vs H Q E h => by obtain ⟨n, rfl, _⟩ := h; rfl) (fun cdv A outer s H vs Q E hr h => ?_)
  obtain ⟨n, rfl, k⟩ := h
  refine ⟨_, (pss_cons (ps_if (pt_cmpR op_lt (pv 0) pe_int (nomark _)) (pss_one (ps_ret (pe_op op_sub (pe_op op_mul (pe_un un_neg pe_int) (pv 0)) pe_int))) pss_nil)
      (pss_one (ps_ret (pe_op op_mul pe_int (pv 0))))), ?_⟩
  walk_at "when"
  · intro hb H1 e1
    walk_at "ret"
    intro H2 e2
    refine ret_eq k (e1.trans e2) ?_
    have hb : n < 0 := of_decide_eq_true hb
    unfold foldI
    rw [if_pos hb]
  · intro hb H1 e1
    walk_at "ret"
    intro H2 e2
    refine ret_eq k (e1.trans e2) ?_
    have hb : ¬ n < 0 := of_decide_eq_false hb
    unfold foldI
    rw [if_neg hb]
def sp_unfold : Sp := fun vs H Q _ => ∃ n : Int, vs = [.int n] ∧ RetV (.int (unfoldI n)) H Q
theorem ok_unfold (T : TX K mg) : FnOk P w K mg base CX0 1 T.a_unfold T.d_unfold ["u"] sp_unfold := by
  refine T.F_unfold.ok sc_unfold (fun vs H Q E h => by obtain ⟨n, rfl, _⟩ := h; rfl) (fun cdv A outer s H vs Q E hr h => ?_)
  obtain ⟨n, rfl, k⟩ := h
  refine ⟨_, (pss_cons (ps_if (pt_cmpR op_eq (pe_op op_mod (pv 0) pe_int) pe_int (nomark _)) (pss_one (ps_ret (pe_op op_fdiv (pv 0) pe_int))) pss_nil)
      (pss_one (ps_ret (pe_op op_sub (pe_un un_neg (pe_op op_fdiv (pv 0) pe_int)) pe_int)))), ?_⟩
  walk_at "when"
  · intro hb H1 e1
    walk_at "ret"
    intro H2 e2
    refine ret_eq k (e1.trans e2) ?_
    have hb : n % 2 = 0 := V.int.inj (of_decide_eq_true hb)
    unfold unfoldI
    rw [if_pos hb]
  · intro hb H1 e1
    walk_at "ret"
    intro H2 e2
    refine ret_eq k (e1.trans e2) ?_
    have hb : ¬ n % 2 = 0 := fun z => of_decide_eq_false hb (congrArg V.int z)
    unfold unfoldI
    rw [if_neg hb]
def sp_isint : Sp := fun vs H Q _ => ∃ n : Int, vs = [.int n] ∧ RetV (.bl true) H Q
theorem ok_law_is_integer (T : TX K mg) : FnOk P w K mg base CX0 1 T.a_law_is_integer T.d_law_is_integer ["actual"] sp_isint := by
  refine T.F_law_is_integer.ok sc_law_is_integer (fun vs H Q E h => by obtain ⟨n, rfl, _⟩ := h; rfl) (fun cdv A outer s H vs Q E hr h => ?_)
  obtain ⟨n, rfl, k⟩ := h
  refine ⟨_, (pss_one (ps_ret (pe_and (pe_callB call_isi (by rfl) T.m_isinstance PyProof.Rows.boot_isinstance (pa_cons (pv 0) (pa_cons (pe_bltn (v := V.ty "int") (by rfl) T.m_int PyProof.Rows.boot_int rfl) pa_nil))) (pe_one (pe_not (pe_callB call_isi (by rfl) T.m_isinstance PyProof.Rows.boot_isinstance (pa_cons (pv 0) (pa_cons (pe_bltn (v := V.ty "bool") (by rfl) T.m_bool PyProof.Rows.boot_bool rfl) pa_nil)))))))), ?_⟩
  walk_at "ret"
  intro H2 e2
  exact ret_eq k e2 rfl
theorem spv_fold {H : Hp} {n : Int} : SpV sp_fold [.int n] H (.int (foldI n)) := fun H1 _ _ q _ => ⟨n, rfl, q⟩
theorem spv_unfold {H : Hp} {n : Int} : SpV sp_unfold [.int n] H (.int (unfoldI n)) := fun H1 _ _ q _ => ⟨n, rfl, q⟩
theorem spv_isint {H : Hp} {n : Int} : SpV sp_isint [.int n] H (.bl true) := fun H1 _ _ q _ => ⟨n, rfl, q⟩
local macro_rules | `(tactic| walk_at "evmore") => `(tactic| first
  | (refine' ev_call (vs := [V.int _]) ?h1 spv_fold; (case h1 => walk_at "ea"))
  | (refine' ev_call (vs := [V.int _]) ?h1 spv_unfold; (case h1 => walk_at "ea"))
  | (refine' ev_call (vs := [V.int _]) ?h1 spv_isint; (case h1 => walk_at "ea")))
theorem putK_len {κ : Type} [DecidableEq κ] (c : List (κ × V)) (k : κ) (x : V) : (putK c k x).length ≤ c.length + 1 := by
  unfold putK
  split
  · rw [List.length_map]
    omega
  · rw [List.length_append]
    exact Nat.le_refl _
theorem ev_dget2 {σ : L2.St} {H : Hp} {td ty tx : TE} {a : Addr} {kvs : List (Key × V)} {n : Int} {z : V} (h1 : Ev td σ H (.ref a)) (h2 : Ev ty σ H (.int n)) (h3 : Ev tx σ H z) (hd : H a = some (.dK kvs)) :
    Ev (tDGet2 td ty tx) σ H ((valV kvs (Sum.inl n)).getD z) := fun H1 e1 Q q => h1 H1 e1 _ fun H2 e2 => ⟨a, rfl, .inl ⟨kvs, .inl (e2 _ _ (e1 _ _ hd))⟩, h2 H2 (e1.trans e2) _ fun H3 e3 => h3 H3 ((e1.trans e2).trans e3) _ fun H4 e4 =>
      ⟨_, DGet.k (k := Sum.inl n) (e4 _ _ (e3 _ _ (e2 _ _ (e1 _ _ hd)))), q H4 ((e2.trans e3).trans e4)⟩⟩
theorem q_dput {σ : L2.St} {H : Hp} {td ty tv : TE} {a : Addr} {kvs : List (Key × V)} {n : Int} {z : V} {D : Ends} {tz : TS} (hd : H a = some (.dK kvs)) (h3 : Ev tv σ H z) (h1 : Ev td σ H (.ref a)) (h2 : Ev ty σ H (.int n)) (hl : kvs.length < 100000)
    (k : ∀ H1, Ex H H1 → tz D σ (upd H1 a (.dK (putK kvs (Sum.inl n) z)))) : tSeq (sDPut td ty tv) tz D σ H :=
  h3 H (Ex.refl H) _ fun H1 e1 => h1 H1 e1 _ fun H2 e2 => h2 H2 (e1.trans e2) _ fun H3 e3 => ⟨a, _, rfl, DPut.k (k := Sum.inl n) (e3 _ _ (e2 _ _ (e1 _ _ hd))) (sz_lt hl), k H3 ((e1.trans e2).trans e3)⟩
/-- the values -/
def four (c : Int) : List Int := [c, -c, c + 1, c + 2]
def vl (ns : List Int) : List Int := [-2, -1, 0, 1, 2] ++ ns.flatMap four
theorem vl_len (ns : List Int) : (vl ns).length = 5 + 4 * ns.length := by
  unfold vl
  rw [List.length_append]
  show 5 + _ = _
  congr 1
  induction ns with
  | nil => rfl
  | cons a r ih =>
    rw [List.flatMap_cons, List.length_append, ih, List.length_cons]
    show 4 + _ = _
    omega
theorem vl_snoc (ns : List Int) (c : Int) : vl (ns ++ [c]) = (((vl ns ++ [c]) ++ [-c]) ++ [c + 1]) ++ [c + 2] := by
  unfold vl
  rw [List.flatMap_append, List.flatMap_cons, List.flatMap_nil]
  show _ ++ (_ ++ ([c, -c, c + 1, c + 2] ++ [])) = _
  simp only [List.append_assoc, List.cons_append, List.nil_append, List.append_nil]
def sp_law (K : PySem.W.Frag) : Sp := fun vs H Q _ => ∃ (a : Addr) (ns : List Int), vs = [.ref a] ∧ SqL K H a (ns.map V.int) ∧ ns.length ≤ 63 ∧ ∀ H', Q (.bl true) H'
theorem ok_law (T : TX K mg) : FnOk P w K mg base CX0 2 T.a_law T.d_law ["script"] (sp_law K) := by
  refine T.F_law.ok sc_law (fun vs H Q E h => by obtain ⟨a, ns, rfl, _⟩ := h; rfl) (fun cdv A outer s H vs Q E hr h => ?_)
  obtain ⟨a, ns, rfl, hS, hlen, k⟩ := h
  have hu := hu_of hr
  refine ⟨_, (pss_cons (ps_set (i := 1) sc_law.nd rfl (Or.inl rfl) (pe_lst (pa_cons (pe_un un_neg pe_int) (pa_cons (pe_un un_neg pe_int) (pa_cons pe_int (pa_cons pe_int (pa_cons pe_int pa_nil)))))))
      (pss_cons (ps_for PassesOwn.never rfl (pi_list (pv 0)) (pg_name (i := 2) sc_law.nd rfl (Or.inl rfl)) (pss_cons (ps_expr (pe_bm PySem.F.plainAttrs_list PySem.F.slot_list_append PySem.F.type_list_append mt_append (pv 1) (pa_cons (pv 2) pa_nil)))
        (pss_cons (ps_expr (pe_bm PySem.F.plainAttrs_list PySem.F.slot_list_append PySem.F.type_list_append mt_append (pv 1) (pa_cons (pe_un un_neg (pv 2)) pa_nil)))
        (pss_cons (ps_expr (pe_bm PySem.F.plainAttrs_list PySem.F.slot_list_append PySem.F.type_list_append mt_append (pv 1) (pa_cons (pe_op op_add (pv 2) pe_int) pa_nil)))
        (pss_one (ps_expr (pe_bm PySem.F.plainAttrs_list PySem.F.slot_list_append PySem.F.type_list_append mt_append (pv 1) (pa_cons (pe_op op_add (pv 2) pe_int) pa_nil))))))))
      (pss_cons (ps_set (i := 3) sc_law.nd rfl (Or.inl rfl) pe_dnewK)
      (pss_cons (ps_for PassesOwn.never rfl (pi_list (pv 1)) (pg_name (i := 4) sc_law.nd rfl (Or.inl rfl)) (pss_cons (ps_set (i := 5) sc_law.nd rfl (Or.inl rfl) (pe_op op_mul pe_int (pv 4)))
        (pss_cons (ps_if (pt_cmpR op_lt (pv 4) pe_int (nomark _)) (pss_one (ps_set (i := 5) sc_law.nd rfl (Or.inl rfl) (pe_op op_sub (pe_op op_mul (pe_un un_neg pe_int) (pv 4)) pe_int))) pss_nil)
        (pss_cons (ps_set (i := 6) sc_law.nd rfl (Or.inl rfl) (pe_call (ok_fold T) (hr.mono (by decide)) (by rfl) T.g_fold T.F_fold.kp T.b_fold .nil pass0 (pa_cons (pv 4) pa_nil)))
        (pss_cons (ps_if (PW.pt (pw_or (pt_not (pt_val (pe_call (ok_law_is_integer T) (hr.mono (by decide)) (by rfl) T.g_law_is_integer T.F_law_is_integer.kp T.b_law_is_integer .nil pass0 (pa_cons (pv 6) pa_nil)))) (pw_or1 (pt_cmpR op_ne (pv 6) (pv 5) (nomark _))))) (pss_one (ps_ret pe_bl)) pss_nil)
        (pss_cons (ps_if (pt_cmpR op_ne (pe_dget2 hu (pv 3) (pv 6) (pv 4) ⟨by rfl, by rfl, by rfl, by rfl⟩) (pv 4) (nomark _)) (pss_one (ps_ret pe_bl)) pss_nil)
        (pss_cons (ps_dput hu (pv 3) (pv 6) (pv 4) rfl)
        (pss_cons (ps_set (i := 7) sc_law.nd rfl (Or.inl rfl) (pe_call (ok_unfold T) (hr.mono (by decide)) (by rfl) T.g_unfold T.F_unfold.kp T.b_unfold .nil pass0 (pa_cons (pv 5) pa_nil)))
        (pss_cons (ps_if (PW.pt (pw_or (pt_not (pt_val (pe_call (ok_law_is_integer T) (hr.mono (by decide)) (by rfl) T.g_law_is_integer T.F_law_is_integer.kp T.b_law_is_integer .nil pass0 (pa_cons (pv 7) pa_nil)))) (pw_or1 (pt_cmpR op_ne (pv 7) (pv 4) (nomark _))))) (pss_one (ps_ret pe_bl)) pss_nil)
        (pss_cons (ps_set (i := 8) sc_law.nd rfl (Or.inl rfl) (pe_callB (call_max2 rfl) (by rfl) T.m_max PyProof.Rows.boot_max (pa_cons (pv 4) (pa_cons (pe_un un_neg (pv 4)) pa_nil))))
        (pss_one (ps_if (PW.pt (pw_or (pt_cmpR op_ne (pe_call (ok_fold T) (hr.mono (by decide)) (by rfl) T.g_fold T.F_fold.kp T.b_fold .nil pass0 (pa_cons (pe_call (ok_unfold T) (hr.mono (by decide)) (by rfl) T.g_unfold T.F_unfold.kp T.b_unfold .nil pass0 (pa_cons (pv 8) pa_nil)) pa_nil)) (pv 8) (nomark _)) (pw_or1 (pt_cmpR op_ne (pe_call (ok_unfold T) (hr.mono (by decide)) (by rfl) T.g_unfold T.F_unfold.kp T.b_unfold .nil pass0 (pa_cons (pe_call (ok_fold T) (hr.mono (by decide)) (by rfl) T.g_fold T.F_fold.kp T.b_fold .nil pass0 (pa_cons (pe_un un_neg (pv 8)) pa_nil)) pa_nil)) (pe_un un_neg (pv 8)) (nomark _))))) (pss_one (ps_ret pe_bl)) pss_nil))))))))))))
      (pss_one (ps_ret pe_bl)))))), ?_⟩
  refine q_asgL (xs := (vl []).map V.int) (el_lst (by walk_at "ea") (by decide)) fun p H1 hp e1 h1 => ?_
  refine q_forLn (xs := ns.map V.int) (a := a) (ev_var rfl) (ex_l e1 hS) (fun i σ' H' => ∃ c, σ' = [some (.ref a), some (.ref p), c, none, none, none, none, none, none] ∧ Ex H H' ∧ H' p = some (.lst ((vl (ns.take i)).map V.int)))
    (fun H2 e2 => ⟨none, rfl, e1.trans e2, e2 _ _ h1⟩) (fun i σ' H' _ ⟨_, _, e, _⟩ => ex_l e hS) ?_ ?_
  · rintro i x σ' H' hx ⟨c, rfl, e, hl⟩
    obtain ⟨n, hn, hi, rfl⟩ := int_at hx
    have lv : ∀ j, j ≤ 3 → (vl (ns.take i)).length + j < 100000 := fun j hj => by
      rw [vl_len, List.length_take]
      omega
    refine q_app hl (ev_var rfl) (ev_var rfl) (by rw [List.length_map]; exact lv 0 (by decide)) fun H2 e2 => ?_
    refine q_app (upd_same) (ev_var rfl) (by walk_at "ev") (by rw [List.length_append, List.length_map]; exact lv 1 (by decide)) fun H3 e3 => ?_
    refine q_app (upd_same) (ev_var rfl) (by walk_at "ev") (by rw [List.length_append, List.length_append, List.length_map]; exact lv 2 (by decide)) fun H4 e4 => ?_
    refine s_app (upd_same) (ev_var rfl) (by walk_at "ev") (by rw [List.length_append, List.length_append, List.length_append, List.length_map]; exact lv 3 (by decide)) fun H5 e5 => ?_
    refine ⟨_, rfl, ?_, ?_⟩
    · exact Ex.mut ((Ex.mut ((Ex.mut ((Ex.mut (e.trans e2) hp).trans e3) hp).trans e4) hp).trans e5) hp
    · rw [upd_same, List.take_add_one, hn]
      show _ = some (HO.lst ((vl (ns.take i ++ [n])).map V.int))
      rw [vl_snoc]
      simp only [List.map_append, List.map_cons, List.map_nil]
  · rintro σ' H' ⟨c, rfl, e, hl⟩
    rw [List.length_map, List.take_length] at hl
    -- origins = {}
    intro q hq
    have hpq : p ≠ q := ne_of_none hl hq
    have hlv : (vl ns).length ≤ 257 := by rw [vl_len]; omega
    refine q_forLn (H := upd H' q (.dK [])) (xs := (vl ns).map V.int) (a := p) (ev_var rfl) (sq_of (by rw [upd_ne hpq]; exact hl))
      (fun i σ2 H2 => ∃ (n x6 x7 x8 x9 : Option V) (kvs : List (Key × V)), σ2 = [some (.ref a), some (.ref p), c, some (.ref q), n, x6, x7, x8, x9] ∧ H2 p = some (.lst ((vl ns).map V.int)) ∧ H2 q = some (.dK kvs) ∧ kvs.length ≤ i ∧
        ∀ (z : Int) (v : V), valV kvs (Sum.inl z) = some v → ∃ m, foldI m = z ∧ v = .int m)
      (fun H2 e2 => ⟨none, none, none, none, none, [], rfl, e2 _ _ (by rw [upd_ne hpq]; exact hl), e2 _ _ upd_same, Nat.le_refl _, fun z v hz => by rw [valV_nil] at hz; cases hz⟩)
      (fun i σ2 H2 _ ⟨_, _, _, _, _, _, _, e, _⟩ => sq_of e) ?_ ?_
    · rintro i x σ2 H2 hx ⟨y5, y6, y7, y8, y9, kvs, rfl, hl2, hq2, hk, hv⟩
      obtain ⟨n, hn, hi, rfl⟩ := int_at hx
      walk_at "asg"
      intro H3 e3
      have hfe : (if decide (n < 0) = true then V.int (-2 * n - 1) else V.int (2 * n)) = V.int (foldI n) := by
        unfold foldI
        by_cases h0 : n < 0
        · rw [if_pos h0, if_pos (decide_eq_true h0)]
        · rw [if_neg h0, if_neg (fun z => h0 (of_decide_eq_true z))]
      refine q_ifAsg (b := decide (n < 0)) (v := V.int (foldI n)) (by walk_at "et") (fun hb => ev_is (v := V.int (-2 * n - 1)) (by walk_at "ev") (by rw [← hfe, if_pos hb])) (fun hb => ?_) fun H4 e4 => ?_
      · rw [← hfe, if_neg (by rw [hb]; decide)]
        rfl
      walk_at "asg"
      intro H5 e5
      walk_at "when"
      · intro hb
        exact absurd hb (by simp)
      intro hb H6 e6
      have ex : Ex H2 H6 := ((e3.trans e4).trans e5).trans e6
      have hget : (valV kvs (Sum.inl (foldI n))).getD (V.int n) = V.int n := by
        cases hc : valV kvs (Sum.inl (foldI n)) with
        | none => rfl
        | some v =>
          obtain ⟨m, hm, rfl⟩ := hv _ _ hc
          rw [foldI_inj hm]
          rfl
      refine q_when (b := false) (et_test (ev_op (x := V.int n) (y := V.int n) (z := .bl false) (ev_is (ev_dget2 (a := q) (kvs := kvs) (n := foldI n) (ev_var rfl) (ev_var rfl) (ev_var rfl) (ex _ _ hq2)) hget) (ev_var rfl) ?_)) (fun hb => by cases hb) fun _ H7 e7 => ?_
      · have e0 : (V.bl false) = V.bl (!decide (V.int n = V.int n)) := by rw [decide_eq_true rfl]; rfl
        rw [e0]
        exact rv_ne rfl
      refine q_dput (a := q) (kvs := kvs) (n := foldI n) (z := V.int n) (e7 _ _ (ex _ _ hq2)) (ev_var rfl) (ev_var rfl) (ev_var rfl) (by omega) fun H8 e8 => ?_
      have hqp : p ≠ q := hpq
      have hp8 : H8 p = some (.lst ((vl ns).map V.int)) := e8 _ _ (e7 _ _ (ex _ _ hl2))
      walk_at "asg"
      intro H9 e9
      walk_at "when"
      · intro hb
        rw [unfold_fold] at hb
        exact absurd hb (by simp)
      intro hb2 H10 e10
      walk_at "asg"
      intro H11 e11
      walk_at "whenS"
      · intro hb
        have hm : (0 : Int) ≤ (if -n > n then -n else n) := by split <;> omega
        rw [fold_unfold hm, unfold_fold] at hb
        exact absurd hb (by simp)
      intro hb3 H12 e12
      have exx := ((e9.trans e10).trans e11).trans e12
      refine ⟨_, _, _, _, _, putK kvs (Sum.inl (foldI n)) (V.int n), rfl, exx _ _ (by rw [upd_ne hqp]; exact hp8), exx _ _ upd_same, ?_, ?_⟩
      · exact Nat.le_trans (putK_len kvs _ _) (by omega)
      · intro z v hz
        rw [valV_put] at hz
        by_cases h0 : (Sum.inl z : Key) = Sum.inl (foldI n)
        · rw [if_pos h0] at hz
          exact ⟨n, (Sum.inl.inj h0).symm, (Option.some.inj hz).symm⟩
        · rw [if_neg h0] at hz
          exact hv z v hz
    · rintro σ2 H2 ⟨_, _, _, _, _, _, rfl, _⟩
      walk_at "ret"
      intro H3 e3
      exact k _
end
theorem all_mk {l : PySem.W.OpenLaw} {w : World} {K : PySem.W.Frag} {h : Heap} {mg : Str → Option Value} {fa : Addr} {f1 f2 f3 f4 : Addr} (X : K.In h) (G : h.Ns mainGlobals mg) (hfa : mg "law" = some (.ref fa))
    {od1 an1 : Option Addr} {sl1 : Array (Option Value)} {oc1 kV1 dc1 pm1 cd1 ct1 : Value} {od2 an2 : Option Addr} {sl2 : Array (Option Value)} {oc2 kV2 dc2 pm2 cd2 ct2 : Value} {od3 an3 : Option Addr} {sl3 : Array (Option Value)} {oc3 kV3 dc3 pm3 cd3 ct3 : Value} {od4 an4 : Option Addr} {sl4 : Array (Option Value)} {oc4 kV4 dc4 pm4 cd4 ct4 : Value}
    (a1 : PySem.W.nsIn K mainGlobals "fold" = some (some (.ref f1)))
    (l1 : K.lookup f1 = some ⟨oc1, od1, .func (PySem.W.fnOf "fold" "fold" (defArgs s_fold) (defBody s_fold) (defScope s_fold) .none kV1 dc1 pm1 an1 cd1 ct1), sl1⟩) (c1 : PySem.W.codeIn K cd1 "fold" = true) (k1 : PySem.W.keepIn K (.ref f1) = true)
    (a2 : PySem.W.nsIn K mainGlobals "unfold" = some (some (.ref f2)))
    (l2 : K.lookup f2 = some ⟨oc2, od2, .func (PySem.W.fnOf "unfold" "unfold" (defArgs s_unfold) (defBody s_unfold) (defScope s_unfold) .none kV2 dc2 pm2 an2 cd2 ct2), sl2⟩) (c2 : PySem.W.codeIn K cd2 "unfold" = true) (k2 : PySem.W.keepIn K (.ref f2) = true)
    (a3 : PySem.W.nsIn K mainGlobals "_law_is_integer" = some (some (.ref f3)))
    (l3 : K.lookup f3 = some ⟨oc3, od3, .func (PySem.W.fnOf "_law_is_integer" "_law_is_integer" (defArgs s_law_is_integer) (defBody s_law_is_integer) (defScope s_law_is_integer) .none kV3 dc3 pm3 an3 cd3 ct3), sl3⟩) (c3 : PySem.W.codeIn K cd3 "_law_is_integer" = true) (k3 : PySem.W.keepIn K (.ref f3) = true)
    (a4 : PySem.W.nsIn K mainGlobals "law" = some (some (.ref f4)))
    (l4 : K.lookup f4 = some ⟨oc4, od4, .func (PySem.W.fnOf "law" "law" (defArgs s_law) (defBody s_law) (defScope s_law) .none kV4 dc4 pm4 an4 cd4 ct4), sl4⟩) (c4 : PySem.W.codeIn K cd4 "law" = true) (k4 : PySem.W.keepIn K (.ref f4) = true)
    (z_isinstance : PySem.W.nsIn K mainGlobals "isinstance" = some none)
    (z_int : PySem.W.nsIn K mainGlobals "int" = some none)
    (z_bool : PySem.W.nsIn K mainGlobals "bool" = some none)
    (z_max : PySem.W.nsIn K mainGlobals "max" = some none)
    : ∃ fd : FuncData, (∀ (s : Shared) (v : Value), BindsTo s fd ⟨[v], []⟩ [("script", v)]) ∧ ∀ base : Heap, K.In base → base.Ns mainGlobals mg → FnOk l.prog w K mg base CX0 2 fa fd ["script"] (sp_law K) := by
  have e := hfa.symm.trans (PySem.W.mg_of X G a4)
  cases e
  have F1 := fun_mk (st := s_fold) l1 c1 k1
  have b1 := F1.binds (ps := ["n"]) fun _ _ _ _ _ _ us hl => match us, hl with | [_], _ => rfl
  have F2 := fun_mk (st := s_unfold) l2 c2 k2
  have b2 := F2.binds (ps := ["u"]) fun _ _ _ _ _ _ us hl => match us, hl with | [_], _ => rfl
  have F3 := fun_mk (st := s_law_is_integer) l3 c3 k3
  have b3 := F3.binds (ps := ["actual"]) fun _ _ _ _ _ _ us hl => match us, hl with | [_], _ => rfl
  have F4 := fun_mk (st := s_law) l4 c4 k4
  have b4 := F4.binds (ps := ["script"]) fun _ _ _ _ _ _ us hl => match us, hl with | [_], _ => rfl
  let T : TX K mg := ⟨f1, _, F1, b1, (PySem.W.mg_of X G a1), f2, _, F2, b2, (PySem.W.mg_of X G a2), f3, _, F3, b3, (PySem.W.mg_of X G a3), fa, _, F4, b4, (PySem.W.mg_of X G a4), (PySem.W.mg_none_of X G z_isinstance), (PySem.W.mg_none_of X G z_int), (PySem.W.mg_none_of X G z_bool), (PySem.W.mg_none_of X G z_max)⟩
  exact ⟨_, fun s v => .of_eq rfl, fun base _ _ => ok_law T⟩
end K15
open PySem PySem.W PyProof.Rows
set_option maxRecDepth 100000 in
set_option maxHeartbeats 0 in
theorem PySem.Challenge.cw_monochord_k15_fold_and_unfold_holds : PySem.Challenge.rw_monochord_k15_fold_and_unfold.Holds := by
  w_on; o_law; k_head; (case hw => w_witness2)
  k_fill
  refine L2.walk_of (l := PySem.Challenge.rw_monochord_k15_fold_and_unfold) (n := 63) (k := 2) (x := "script") (CX := fun _ => L2.CX0) (sp := fun w => K15.sp_law _) rfl (by decide) rfl ⟨rfl, by decide, by decide⟩ (fun w h Y => PySem.W.kIn_of Y) ?F (fun _ _ a ns hl _ hS => ⟨a, ns, rfl, hS, hl, fun _ => rfl⟩) (fun _ _ _ _ _ h => h)
  case F =>
    intro w mg fa h KX G hmg
    refine' K15.all_mk KX G hmg ?a1 ?l1 ?c1 ?k1 ?a2 ?l2 ?c2 ?k2 ?a3 ?l3 ?c3 ?k3 ?a4 ?l4 ?c4 ?k4 ?z_isinstance ?z_int ?z_bool ?z_max
    (case a1 => k_is)
    (case l1 => k_is)
    (case c1 => k_is)
    (case k1 => k_is)
    (case a2 => k_is)
    (case l2 => k_is)
    (case c2 => k_is)
    (case k2 => k_is)
    (case a3 => k_is)
    (case l3 => k_is)
    (case c3 => k_is)
    (case k3 => k_is)
    (case a4 => k_is)
    (case l4 => k_is)
    (case c4 => k_is)
    (case k4 => k_is)
    (case z_isinstance => k_is)
    (case z_int => k_is)
    (case z_bool => k_is)
    (case z_max => k_is)
