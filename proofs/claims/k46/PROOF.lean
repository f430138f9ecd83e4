import PyProof.Rows.All
import Wide.All
import OpenK.AllK
import Wide.FinOn
import HandS.ForMost
import HandS.Steps
import HandS.Evl
import HandS.IsInst
import HandS.Wide
import HandS.Walk
import HandS.TryOnly
import HandS.Text
import PyProof.P3Eq
import HandS.ForExc
import HandS.ExcInit
import HandS.ExcIs
import HandS.ExcField
import HandS.ExcOwn
import HandS.ExcBuiltin
import HandS.ExcCtx
import HandS.HotCalls
import HandS.WordsExc
import KE.KTypeName
import PySem.Challenge.RW_monochord_k46_seek_table_faults
set_option Elab.async false
set_option linter.all false
set_option maxRecDepth 100000
set_option maxHeartbeats 4000000
/-! ### own errors: the class's name, an error's class, its fields, isinstance -/
namespace PySem
namespace ExqW
open PySem.W PySem.Calls PyProof.Rows Builtin Builtin.ObjectAttr Builtin.Getset_descriptor
section
variable {prog : Program} {w : World} {A : Around} {E : Value → Shared → Prop} {s : Shared} {K : Frag} {x D C : Addr} {ox : Obj} {R : Result → Shared → Prop}
theorem exq_class {od : Option Obj} {expr : Bool} {Q : Value → Shared → Prop} (hga : findIn K (.ref D) "__getattribute__" = some (some (.builtin "BaseException.__getattribute__"))) (hgt : findIn K (.ref D) "__getattr__" = some none) (hsub : subIn K (.ref D) (.type "BaseException") = some true)
    (hf : findObj K D od "__class__" = some (.bind (.builtin "getset_descriptor.__get__") (.builtin "object.__class__"))) (hm : mroIn K D (.type "object") = some true)
    (X : K.In s.heap) (I : InstAt s.heap x ox D od) (h : Q (.ref D) { s with toks := s.toks + 1 }) : wpAny (model prog w) A (getAttr (.ref x) "__class__" expr) Q E s := by
  obtain ⟨hp, g, d, t, os⟩ := s
  have L0 := I.type (M := model prog w)
  have L1 := looks_findIn (M := model prog w) X hga
  have L2 := looks_findIn (M := model prog w) X hgt
  have L3 := looks_find (M := model prog w) X I hf
  have sub : Looks (model prog w) hp (isInstance (.ref x) (.type "BaseException")) true := L0.andThen (looks_subIn X hsub)
  have hx0 : (expr && onTheHeap (Value.builtin "BaseException.__getattribute__")) = false := by cases expr <;> rfl
  have hx2 : (Value.builtin "BaseException.__getattribute__" == Value.builtin "object.__getattribute__") = false := by decide +kernel
  have hx1 : (onTheHeap (Value.ref D) && Value.builtin "BaseException.__getattribute__" == Value.builtin "object.__getattribute__") = false := by rw [hx2]; rfl
  unfold getAttr getAttrBy
  refine wpAny_bind (wpAny_mkText (wpAny_holding (wpAny_bind (L0.at (wpAny_bind (L1.at ?_))))))
  show wpAny _ _ (if (onTheHeap (Value.ref D) && Value.builtin "BaseException.__getattribute__" == Value.builtin "object.__getattribute__") = true then _ else _) _ _ _
  rw [hx1, if_neg Bool.false_ne_true]
  unfold getAttrByItsOwn hookBefore
  refine wpAny_bind ?_
  rw [if_pos (show onTheHeap (Value.ref D) = true from rfl)]
  refine L2.at ?_
  refine wpAny_bind (wpAny_attempt (wpAny_holding ?_))
  unfold callGetattribute
  rw [hx0, if_neg Bool.false_ne_true]
  unfold boundAndCalled
  rw [PySem.F.excAttr_ValueError.ga.bind (.ref x)]
  refine wpAny_bind (wpAny_pure ?_)
  show wpAny _ _ (call (.builtin "BaseException.__getattribute__") [.ref x, .str "__class__" t]) _ _ _
  refine wpAny_call (codeAny_call_builtin PySem.F.excAttr_ValueError.ga.plain PySem.F.entry_bexc_ga ?_)
  refine @check_slot (model prog w) _ _ ⟨hp, g, d, t + 1, os⟩ "BaseException.__getattribute__" "BaseException" "__getattribute__" (.ref x) [.str "__class__" t] [] _ (by decide +kernel) (by decide +kernel) sub (PySem.F.args_bexc_ga (.ref x) (.str "__class__" t)) ?_
  unfold Builtin.«object.__getattribute__»
  refine wpAny_bind (wpAny_of_eq (a := ((Value.ref x : Value), [Value.str "__class__" t])) (by first | rfl | (simp only [slotArgs]; rfl)) ?_)
  refine wpAny_bind (wpAny_pure (wpAny_bind (L0.at (wpAny_bind (L3.at ?_)))))
  show wpAny _ _ (holding [Value.builtin "object.__class__"] (call (.builtin "getset_descriptor.__get__") [.builtin "object.__class__", .ref x, .ref D]) >>= ret) _ _ _
  refine wpAny_bind (wpAny_holding (wpAny_call (class_get (s := ⟨hp, g, d, t + 1, os⟩) (ox := ox) (od := od) X I hm ?_)))
  refine wpAny_pure ?_
  show wpAny _ _ (handedOut (.ref D)) _ _ _
  rw [handedOut_of (v := .ref D) rfl]
  first
    | exact wpAny_pure (wpAny_pure h)
    | exact wpAny_pure h
    | exact wpAny_pure (wpAny_bind (wpAny_pure (wpAny_pure h)))
theorem exq_classQ {od : Option Obj} {Q : Option Value → Shared → Prop} (hga : findIn K (.ref D) "__getattribute__" = some (some (.builtin "BaseException.__getattribute__"))) (hgt : findIn K (.ref D) "__getattr__" = some none) (hsub : subIn K (.ref D) (.type "BaseException") = some true)
    (hf : findObj K D od "__class__" = some (.bind (.builtin "getset_descriptor.__get__") (.builtin "object.__class__"))) (hm : mroIn K D (.type "object") = some true)
    (X : K.In s.heap) (I : InstAt s.heap x ox D od) (h : Q (some (.ref D)) { s with toks := s.toks + 1 }) : wpAny (model prog w) A (getAttr? (.ref x) "__class__") Q E s := by
  obtain ⟨hp, g, d, t, os⟩ := s
  have L0 := I.type (M := model prog w)
  have L1 := looks_findIn (M := model prog w) X hga
  have L2 := looks_findIn (M := model prog w) X hgt
  have L3 := looks_find (M := model prog w) X I hf
  have sub : Looks (model prog w) hp (isInstance (.ref x) (.type "BaseException")) true := L0.andThen (looks_subIn X hsub)
  have hx0 : (false && onTheHeap (Value.builtin "BaseException.__getattribute__")) = false := rfl
  have hx2 : (Value.builtin "BaseException.__getattribute__" == Value.builtin "object.__getattribute__") = false := by decide +kernel
  have hx1 : (onTheHeap (Value.ref D) && Value.builtin "BaseException.__getattribute__" == Value.builtin "object.__getattribute__") = false := by rw [hx2]; rfl
  unfold getAttr? getAttrBy? getAttrBy
  refine wpAny_bind (wpAny_mkText (wpAny_bind (wpAny_attempt (wpAny_holding (wpAny_bind (L0.at (wpAny_bind (L1.at ?_))))))))
  show wpAny _ _ (if (onTheHeap (Value.ref D) && Value.builtin "BaseException.__getattribute__" == Value.builtin "object.__getattribute__") = true then _ else _) _ _ _
  rw [hx1, if_neg Bool.false_ne_true]
  unfold getAttrByItsOwn hookBefore
  refine wpAny_bind ?_
  rw [if_pos (show onTheHeap (Value.ref D) = true from rfl)]
  refine L2.at ?_
  refine wpAny_bind (wpAny_attempt (wpAny_holding ?_))
  unfold callGetattribute
  rw [hx0, if_neg Bool.false_ne_true]
  unfold boundAndCalled
  rw [PySem.F.excAttr_ValueError.ga.bind (.ref x)]
  refine wpAny_bind (wpAny_pure ?_)
  show wpAny _ _ (call (.builtin "BaseException.__getattribute__") [.ref x, .str "__class__" t]) _ _ _
  refine wpAny_call (codeAny_call_builtin PySem.F.excAttr_ValueError.ga.plain PySem.F.entry_bexc_ga ?_)
  refine @check_slot (model prog w) _ _ ⟨hp, g, d, t + 1, os⟩ "BaseException.__getattribute__" "BaseException" "__getattribute__" (.ref x) [.str "__class__" t] [] _ (by decide +kernel) (by decide +kernel) sub (PySem.F.args_bexc_ga (.ref x) (.str "__class__" t)) ?_
  unfold Builtin.«object.__getattribute__»
  refine wpAny_bind (wpAny_of_eq (a := ((Value.ref x : Value), [Value.str "__class__" t])) (by first | rfl | (simp only [slotArgs]; rfl)) ?_)
  refine wpAny_bind (wpAny_pure (wpAny_bind (L0.at (wpAny_bind (L3.at ?_)))))
  show wpAny _ _ (holding [Value.builtin "object.__class__"] (call (.builtin "getset_descriptor.__get__") [.builtin "object.__class__", .ref x, .ref D]) >>= ret) _ _ _
  refine wpAny_bind (wpAny_holding (wpAny_call (class_get (s := ⟨hp, g, d, t + 1, os⟩) (ox := ox) (od := od) X I hm ?_)))
  refine wpAny_pure ?_
  show wpAny _ _ (handedOut (.ref D)) _ _ _
  rw [handedOut_of (v := .ref D) rfl]
  first
    | exact wpAny_pure (wpAny_pure h)
    | exact wpAny_pure h
    | exact wpAny_pure (wpAny_bind (wpAny_pure (wpAny_pure h)))
theorem exq_dga (d tp : Value) (C : Addr) : descrGetArgs ⟨[d, .ref C, tp], []⟩ = pure (d, some (.ref C), given tp) := by kernel_rfl
theorem exq_name_get {tp v : Value} {oC : Obj} (X : K.In s.heap) (ht : typeIn K (.ref C) = some (.type "type")) (hC : K.lookup C = some oC) (hv : (oC.slots[2]?).join = some v) (h : R (.ok (.ret v)) s) :
    codeAny (model prog w) A (.call (.builtin "getset_descriptor.__get__") ⟨[.builtin "type.__name__", .ref C, tp], []⟩) R s := by
  obtain ⟨hh, g, dr, t, os⟩ := s
  have L0 : Looks (model prog w) hh (typeOf (.ref C)) (.type "type") := looks_typeIn X ht
  have L1 : Looks (model prog w) hh (isSubtype (.type "type") (.type "type")) true := Looks.of_pure (by rw [isSubtype_type]; kernel_rfl)
  refine codeAny_call_builtin KF.slot_gs.plain KF.entry_gs (KF.slot_gs.check _ _ _ _ _ _ _ _ ktyn_type (KF.args_gs _ _ _) ?_)
  unfold Builtin.«getset_descriptor.__get__» descrGet
  rw [exq_dga]
  refine wpAny_bind (wpAny_pure ?_)
  unfold descrGetter descrCheckInstance descrNameAndClass isInstance
  simp only [ktyn_owner]
  repeat lk
  refine ⟨Code.quiet_builtin _ (by decide +kernel), codeAny_builtin ktyn_entry ?_⟩
  unfold Builtin.«type.__name__»
  dsimp only
  unfold Builtin.keptObject slotAt
  dsimp only
  refine wpAny_bind (wpAny_bind (wpAny_loadPart (X _ _ hC) (wpAny_pure ?_)))
  rw [hv]
  dsimp only
  unfold ret
  first
    | exact wpAny_bind (wpAny_pure (wpAny_pure h))
    | exact wpAny_pure h
    | exact wpAny_bind (wpAny_pure h)
theorem exq_name {oC : Obj} {v : Value} {expr : Bool} {Q : Value → Shared → Prop} (X : K.In s.heap) (hr : readsIn K C (.type "type") = true)
    (e : findCls K (.ref C) (.type "type") "__name__" = some (.get (.builtin "getset_descriptor.__get__") (.builtin "type.__name__") (.ref C) (.type "type"))) (ht : typeIn K (.ref C) = some (.type "type")) (hC : K.lookup C = some oC) (hv : (oC.slots[2]?).join = some v) (hh : handedIn v = true)
    (h : Q v { s with toks := s.toks + 1 }) : wpAny (model prog w) A (getAttr (.ref C) "__name__" expr) Q E s :=
  cls_bind X hr e (wpAny_call (exq_name_get (s := { s with toks := s.toks + 1 }) X ht hC hv (handed_on hh h)))
theorem exq_kitx {od : Option Obj} (hga : findIn K (.ref D) "__getattribute__" = some (some (.builtin "BaseException.__getattribute__"))) (hgt : findIn K (.ref D) "__getattr__" = some none) (hsub : subIn K (.ref D) (.type "BaseException") = some true) (hdct : hasDictIn K D = true)
    (hf : findObj K D od "__class__" = some (.bind (.builtin "getset_descriptor.__get__") (.builtin "object.__class__"))) (hm : mroIn K D (.type "object") = some true) :
    KitX K (.ref x) (.ref D) (fun h => InstAt h x ox D od) where
  ty := fun _ _ _ I => I.type
  it := fun _ _ X _ => by
    obtain ⟨cdD, hcD, _⟩ := any_some hdct
    unfold clsIn at hcD
    split at hcD
    · rename_i c' d' cd' sl' ho
      intro A' Q' E' s' k q
      unfold isType loadHead
      exact wpAny_bind (wpAny_loadPart (k _ _ (X _ _ ho)) (wpAny_pure q))
    · cases hcD
  ne := fun h tp dd its n sl X htp => by
    obtain ⟨cdD, hcD, _⟩ := any_some hdct
    refine Bool.eq_false_iff.mpr fun q => ?_
    have e : D = tp := Value.ref.inj (beq_iff_eq.mp q)
    subst e
    unfold clsIn at hcD
    split at hcD
    · rename_i c' d' cd' sl' ho
      have z := (X _ _ ho).symm.trans htp
      cases z
    · cases hcD
  ca := fun X I k => exq_classQ hga hgt hsub hf hm X I k
end
end ExqW
end PySem
namespace L2
open PySem PySem.Spec PyProof.Rows
/-- what the written part says of an own error class at C (its name nm), whose __init__ stands at fI -/
structure ExK (K : PySem.W.Frag) (C fI : Addr) (nm : Str) : Prop where
  cls : ∃ n q N bs bm sn sub ab col dd k0 k1 tk k3 k5, K.lookup C = some (excClassObj n q C N bs bm true sn sub ab col dd k0 k1 (some (.str nm tk)) k3 k5 "ValueError.__new__") ∧ PySem.HandSPX.refsVE bm = true
  sa : PySem.W.findIn K (.ref C) "__setattr__" = some (some (.builtin "object.__setattr__"))
  tyC : PySem.W.typeIn K (.ref C) = some (.type "type")
  kC : PySem.W.keepIn K (.ref C) = true
  iC : PySem.W.findIn K (.ref C) "__init__" = some (some (.ref fI))
  nP : PySem.W.findIn K (.ref C) "place" = some none
  nN : PySem.W.findIn K (.ref C) "name" = some none
  ex : ExcC K C
  rd : PySem.W.readsIn K C (.type "type") = true
  fc : PySem.W.findCls K (.ref C) (.type "type") "__name__" = some (.get (.builtin "getset_descriptor.__get__") (.builtin "type.__name__") (.ref C) (.type "type"))
section
variable {K : PySem.W.Frag} {C fI : Addr} {nm : Str}
theorem ExK.ox (T : ExK K C fI nm) : OexC K C := by
  obtain ⟨n, q, N, bs, bm, sn, sub, ab, col, dd, k0, k1, tk, k3, k5, h1, h2⟩ := T.cls
  exact ⟨⟨n, q, N, bs, bm, sn, sub, ab, col, dd, k0, k1, _, k3, k5, h1, h2⟩, T.sa, T.ex.hs, T.tyC, T.kC⟩
theorem ExK.xf (T : ExK K C fI nm) : XfC K C := ⟨T.ex.hg, T.ex.hk, T.ex.hs, T.ex.hd⟩
end
theorem ExcC.fo {K : PySem.W.Frag} {C : Addr} (T : ExcC K C) (od : Obj) : PySem.W.findObj K C (some od) "__class__" = some (.bind (.builtin "getset_descriptor.__get__") (.builtin "object.__class__")) :=
  PySem.W.findObj_data (by obtain ⟨cd, hc, _⟩ := PySem.W.any_some T.hd; show (PySem.W.clsIn K C).isSome = true; rw [hc]; rfl) T.ha T.hn T.ht
/-- self.__class__.__name__ of an error that is being made -/
def tCN (K : PySem.W.Frag) (te : TE) : TE := fun σ H Q => te σ H fun x H1 => ∃ (a C dx : Addr) (fs : List (Str × V)) (fI : Addr) (nm : Str), x = .ref a ∧ ExK K C fI nm ∧ H1 a = some (exo a C (some dx)) ∧ H1 dx = some (exd dx fs) ∧ Q (.str nm) H1
theorem pe_clsname {X : Cx} {o : Expr} {te : TE} {p1 p2 : Pos} (he : PE X o te) (hb1 : attributeBase o "__class__" X.env (eval o X.env) = eval o X.env := by rfl)
    (hb2 : attributeBase (.Attribute o "__class__" p1) "__name__" X.env (eval (.Attribute o "__class__" p1) X.env) = eval (.Attribute o "__class__" p1) X.env := by rfl) :
    PE X (.Attribute (.Attribute o "__class__" p1) "__name__" p2) (tCN X.K te) := by
  refine ⟨fun pins s σ H Q I h => ?_⟩
  refine attr_of hb2 (attr_of hb1 (thn (he.run pins s σ H _ I h) fun u s1 ⟨x, H1, I1, rx, a, C, dx, fs, fI, nm, ex, T, ea, ed, q⟩ => ?_))
  subst ex
  obtain rfl : u = Value.ref a := rx
  obtain ⟨t1, ho⟩ := exo_at I1.hok ea
  obtain ⟨mA, hns, rel⟩ := exd_at I1.hok ed
  obtain ⟨oD, _, _, hoD, _, _⟩ := id hns
  have J : PySem.W.InstAt s1.heap a { cls := .ref C, dict := some dx, data := .fields #[.ref t1, .none, .none, .none, .bool false, .none] } C (some oD) := ⟨ho, rfl, rfl, hoD⟩
  obtain ⟨n, qq, N, bs, bm, sn, sub, ab, col, dd, k0, k1, tk, k3, k5, hC, hbm⟩ := T.cls
  refine PySem.ExqW.exq_class T.ex.hg T.ex.hk T.ex.hs (T.ex.fo oD) T.ex.hm I1.kIn J ?_
  refine PySem.ExqW.exq_name (s := { s1 with toks := s1.toks + 1 }) I1.kIn T.rd T.fc T.tyC hC rfl rfl ?_
  exact ⟨.str nm, H1, I1.tok _, ⟨tk, rfl⟩, q⟩
/-- error.f in an except suite: the class is known when it runs -/
def tXfA (K : PySem.W.Frag) (a : Addr) (cls : Value) (d : Option Addr) (f : Str) (te : TE) : TE := fun σ H Q => te σ H fun x H1 => x = .ref a ∧ ∃ C, cls = .ref C ∧ XfC K C ∧ PySem.W.findIn K (.ref C) f = some none ∧ ∃ (dd : Addr) (fs : List (Str × V)) (v : V), d = some dd ∧ H1 dd = some (.xd fs) ∧ fs.lookup f = some v ∧ Q v H1
theorem pe_xfA {X : Cx} {a : Addr} {oe : Obj} {cls : Value} {d : Option Addr} {pn : List (Addr × Obj)} {e : Expr} {te : TE} {pos : Pos} {n : Str}
    (hz : Zc cls d oe) (hf : ∃ vs, oe.data = .fields vs) (he : PE (X.suite a ((a, oe) :: pn)) e te) (hb : attributeBase e n X.env (eval e X.env) = eval e X.env := by rfl) :
    PE (X.suite a ((a, oe) :: pn)) (.Attribute e n pos) (tXfA X.K a cls d n te) := by
  refine ⟨fun pins s σ H Q I h => ?_⟩
  refine attr_of hb (thn (he.run pins s σ H _ I h) fun u s1 hh => ?_)
  obtain ⟨x, H1, I1, rx, ex, C, ec, T, hno, dd, fs, v, ed, ea, l, q⟩ := hh
  subst ex
  obtain rfl : u = Value.ref a := rx
  subst ec
  subst ed
  obtain ⟨ha, _⟩ := I1.pin (a, oe) (List.mem_append_left _ List.mem_cons_self)
  obtain ⟨vs, hd⟩ := hf
  have hx : ObjOk X.prog X.w H1 s1.heap dd (.xd fs) := I1.hok dd _ ea
  obtain ⟨mA, hns, hr⟩ := hx
  obtain ⟨od, ho, hl⟩ := lookIn_ns hns
  obtain ⟨u, hu, ru⟩ := RelO.some_of (v := v) (o := mA n) (by rw [← l]; exact hr n)
  have J : PySem.W.InstAt s1.heap a oe C (some od) := ⟨ha, hz.1, by unfold PySem.W.notCls; rw [hd] <;> rfl, by rw [hz.2]; exact ho⟩
  exact HandSPX.exc_get I1.kIn J T.ga T.gg T.exC (PySem.W.findObj_own T.hdC hno rfl (by rw [hl, hu])) (handed_of ru) ⟨v, H1, I1.tok _, ru, q⟩
/-- isinstance(error, c) in an except suite -/
def rIsA (K : PySem.W.Frag) (cls : Value) (d : Option Addr) (a : Addr) : List V → Hp → VK → Prop := fun xs H Q => ∃ (C : Addr) (c : V) (cv : Value) (b : Bool) (dd : Addr) (fs : List (Str × V)), cls = .ref C ∧ ExcC K C ∧ d = some dd ∧ H dd = some (.xd fs) ∧ xs = [.ref a, c] ∧ (∀ u, RelV c u → u = cv) ∧ PySem.W.kitOne K (.ref C) cv = some b ∧ Q (.bl b) H
theorem call_isA {X : Cx} {a : Addr} {oe : Obj} {cls : Value} {d : Option Addr} {pn : List (Addr × Obj)} (hz : Zc cls d oe) (hf : ∃ vs, oe.data = .fields vs) : CallR (X.suite a ((a, oe) :: pn)) (.builtin "isinstance") (rIsA X.K cls d a) := by
  intro pins s σ H xs us Q I r h
  obtain ⟨C, c, cv, b, dd, fs, ec, T, ed, ea, rfl, hcv, e, q⟩ := h
  subst ec
  subst ed
  cases r with
  | cons rx rr =>
    cases rr with
    | cons rt rr =>
      cases rr
      cases rx
      have ecv := hcv _ rt
      subst ecv
      obtain ⟨hget, _⟩ := I.pin (a, oe) (List.mem_append.mpr (.inl List.mem_cons_self))
      obtain ⟨vs, hv⟩ := hf
      have hx : ObjOk X.prog X.w H s.heap dd (.xd fs) := I.hok dd _ ea
      obtain ⟨mA, ⟨od, es, ep, ho, hl⟩, hr⟩ := hx
      have J : PySem.W.InstAt s.heap a oe C (some od) := ⟨hget, hz.1, by unfold PySem.W.notCls; rw [hv] <;> rfl, by rw [hz.2]; exact ho⟩
      exact PySem.W.kia_one (PySem.ExqW.exq_kitx T.hg T.hk T.hs T.hd (T.fo od) T.hm) I.kIn J e (fun z => nomatch z) fun tk => ⟨.bl b, H, I.kept (t' := tk) fun _ _ z => z, rfl, q⟩
/-! ### calls that may let an error out -/
section
variable {X : Cx} {CX : CXT} {k : Nat} {f C : Addr} {fd : FuncData} {ps : List Str} {sp : Sp} {dvs : List V} {ds : List Value} {E : St → XK} {x m : Str} {p pos apos : Pos} {e o : Expr} {es : List Expr} {ta : TE} {t : TA}
theorem run_fnD {pins : List (Addr × Obj)} {σ : St} {H : Hp} {s : Shared} {Q : VK} {us : List Value} {vs : List V} (F : FnOk X.prog X.w X.K X.mg X.base CX k f fd ps sp) (hr : Room k X.A) (hb : Binds X.K fd ps ds) (hd : Vals dvs ds) (hx : PassesAt CX X σ (E σ))
    (I : Inv X pins σ H s) (r : Vals vs us) (h : sp (vs ++ dvs) H Q (E σ)) : wpAny (model X.prog X.w) X.A (call (.ref f) us) (EP X pins σ Q) X.xe s := by
  have r2 : Vals (vs ++ dvs) (us ++ ds) := r.append hd
  have hl : (us ++ ds).length = ps.length := by rw [← r2.length]; exact F.len _ _ _ _ h
  refine wpAny_call (codeAny_mono (F.run X.A X.stack s H ⟨us, []⟩ (us ++ ds) (vs ++ dvs) Q (E σ) hr I.env0 (hb s us I.kIn hl) r2 h) fun r s' hq => ?_)
  cases r with
  | error e => exact hx pins H s e s' I hq
  | ok fl =>
    cases fl with
    | ret u => exact I.after hq
    | next => exact False.elim hq
    | brk => exact False.elim hq
    | cont => exact False.elim hq
def tCallX (sp : Sp) (dvs : List V) (E : St → XK) (t : TA) : TE := fun σ H Q => t σ H fun vs H1 => sp (vs ++ dvs) H1 Q (E σ)
theorem pe_callX (F : FnOk X.prog X.w X.K X.mg X.base CX k f fd ps sp) (hr : Room k X.A) (hg : Gl X x) (hm : X.mg x = some (.ref f)) (hk : PySem.W.keepIn X.K (.ref f) = true) (hb : Binds X.K fd ps ds) (hd : Vals dvs ds) (hx : ∀ σ, PassesAt CX X σ (E σ))
    (ha : PA X (e :: es) t) (hdb : (x == ("__debug__" : Str)) = false := by decide) (he : starEach (e :: es) X.env = (false, eval e X.env) :: starEach es X.env := by rfl) (hpl : (backTo pos (starEach es X.env)).any (·.1) = false := by rfl) :
    PE X (.Call (.Name x p) (e :: es) [] pos) (tCallX sp dvs E t) := by
  refine ⟨fun pins s σ H Q I h => ?_⟩
  refine wpAny_Call_Name_kw (ld_glob I hg hm ?_ hdb)
  refine PySem.W.callWith_K (h₀ := X.base) I.ok.mod.kin hk (thn (ha.run pos pins s σ H _ I h) fun us s1 ⟨vs, H1, I1, r, q⟩ => ⟨I1.kIn, ?_⟩) he hpl
  exact run_fnD F hr hb hd (hx σ) I1 r q
/-- o.m(..) -/
def tMethX (C : Addr) (m : Str) (sp : Sp) (dvs : List V) (E : St → XK) (ta : TE) (t : TA) : TE := fun σ H Q => ta σ H fun x H1 => ∃ a dx fs, x = .ref a ∧ H1 a = some (.ins C dx fs) ∧ fs.lookup m = none ∧
  t σ H1 fun vs H2 => sp (x :: (vs ++ dvs)) H2 Q (E σ)
theorem pe_methX {pl : Sem Bool} (he : PE X o ta) (c : Cls X.K C) (hm : Meth X.K C m f) (F : FnOk X.prog X.w X.K X.mg X.base CX k f fd ps sp) (hr : Room k X.A) (hb : Binds X.K fd ps ds) (hd : Vals dvs ds) (hx : ∀ σ, PassesAt CX X σ (E σ)) (ha : PA X (e :: es) t)
    (hst : starEach (e :: es) X.env = (false, eval e X.env) :: starEach es X.env := by rfl) (hpl : (backTo pos (starEach es X.env)).any (·.1) = false := by rfl)
    (ht : eval (.Call (.Attribute o m apos) (e :: es) [] pos) X.env = (do
      let ov ← eval o X.env
      standAt apos.atName
      let (f, first) ← holding [ov] (getMethod ov m pl)
      callWith pos f first (backTo pos (starEach (e :: es) X.env)) (backToKw pos (keywordEach [] X.env))) := by rfl) :
    PE X (.Call (.Attribute o m apos) (e :: es) [] pos) (tMethX C m sp dvs E ta t) := by
  refine ⟨fun pins s σ H Q I h => ?_⟩
  refine PySem.W.methodCall_KW (pl := pl) (thn (he.run pins s σ H _ I h) fun u s1 ⟨x, H1, I1, rx, a, dx, fs, ex, ea, l, q⟩ => ?_) ht
  subst ex
  obtain rfl : u = Value.ref a := rx
  refine getmeth_ok I1 ea c hm l ?_
  refine PySem.W.callWith_K (first := [.ref a]) (h₀ := X.base) I.ok.mod.kin hm.kp (thn (ha.run pos pins s1 σ H1 _ I1 q) fun us s2 ⟨vs, H2, I2, r, q2⟩ => ⟨I2.kIn, ?_⟩) hst hpl
  exact run_fnD (us := .ref a :: us) (vs := .ref a :: vs) F hr hb hd (hx σ) I2 (.cons rfl r) q2
theorem pe_methX0 {pl : Sem Bool} (he : PE X o ta) (c : Cls X.K C) (hm : Meth X.K C m f) (F : FnOk X.prog X.w X.K X.mg X.base CX k f fd ps sp) (hr : Room k X.A) (hb : Binds X.K fd ps ds) (hd : Vals dvs ds) (hx : ∀ σ, PassesAt CX X σ (E σ))
    (ht : eval (.Call (.Attribute o m apos) [] [] pos) X.env = (do
      let ov ← eval o X.env
      standAt apos.atName
      let (f, first) ← holding [ov] (getMethod ov m pl)
      callWith pos f first (backTo pos (starEach [] X.env)) (backToKw pos (keywordEach [] X.env))) := by rfl) :
    PE X (.Call (.Attribute o m apos) [] [] pos) (tMethX C m sp dvs E ta tNil) := by
  refine ⟨fun pins s σ H Q I h => ?_⟩
  refine PySem.W.methodCall_KW (pl := pl) (thn (he.run pins s σ H _ I h) fun u s1 ⟨x, H1, I1, rx, a, dx, fs, ex, ea, l, q⟩ => ?_) ht
  subst ex
  obtain rfl : u = Value.ref a := rx
  refine getmeth_ok I1 ea c hm l ?_
  exact PySem.W.callWith_K0 (first := [.ref a]) I1.kIn hm.kp (run_fnD (us := [.ref a]) (vs := [.ref a]) F hr hb hd (hx σ) I1 (.cons rfl .nil) q)
end
/-! ### readings -/
def ErrD (H : Hp) (d : Addr) (nm : Str) (n : Int) : Prop := H d = some (.xd [("name", .str nm), ("place", .int n)])
theorem ErrD.ex {H H' : Hp} {d : Addr} {nm : Str} {n : Int} (e : Evl.Ex H H') (h : ErrD H d nm n) : ErrD H' d nm n := e _ _ h
def sp_einit (K : PySem.W.Frag) : Sp := fun vs H Q _ => ∃ (a C fI : Addr) (nm : Str) (n : Int), vs = [.ref a, .int n] ∧ ExK K C fI nm ∧ H a = some (exo a C none) ∧
  ∀ dx H', H dx = none → dx ≠ a → (∀ b o, b ≠ a → H b = some o → H' b = some o) → H' a = some (exo a C (some dx)) → H' dx = some (exd dx [("name", .str nm), ("place", .int n)]) → Q .non H'
theorem mk_err {K : PySem.W.Frag} {C fI : Addr} {nm : Str} {σ : St} {H : Hp} {ta : TA} {n : Int} {Q : XK} (T : ExK K C fI nm) (h : Evl.EvA ta σ H [.int n]) (k : ∀ H' d, H d = none → Evl.Ex H H' → ErrD H' d nm n → Q (.ref C) (some d) H') : tMkO C (sp_einit K) [] ta σ H Q := by
  refine h H (Evl.Ex.refl H) _ fun H1 e1 => ⟨Nat.le_of_ble_eq_true rfl, fun a ha => ⟨a, C, fI, nm, n, rfl, T, upd_same, fun dx H2 hdx ne keep h2a h2d => ⟨rfl, dx, _, h2a, h2d, by rwa [upd_ne ne] at hdx, ?_⟩⟩⟩
  have hdx1 : H1 dx = none := by rwa [upd_ne ne] at hdx
  refine k _ dx (by cases hh : H dx with | none => rfl | some o => rw [e1 _ _ hh] at hdx1; cases hdx1) (fun b o hb => ?_) upd_same
  have hb1 := e1 _ _ hb
  have nb : b ≠ a := fun z => by rw [z, ha] at hb1; cases hb1
  have nd : b ≠ dx := fun z => by rw [z, hdx1] at hb1; cases hb1
  rw [upd_ne nd, del_ne nb]
  exact keep b o nb (by rw [upd_ne nb]; exact hb1)
end L2
namespace L2
open PySem PySem.Spec PyProof.Rows
/-! ### errors whose context is kept (L2N): calls within an except suite -/
theorem passN {X : Cx} : Passes (L2N.CX X.prog X.w) X E0 := fun _ _ _ _ _ _ _ h => by
  obtain ⟨_, _, _, _, _, _, _, _, _, _, _, _, z⟩ := h
  exact z.elim
theorem passH0 {X : Cx} {σ : St} : PassesAt CX0 X σ E0 := fun _ _ _ _ _ _ h => h.elim
theorem takesN0 {X : Cx} : L2N.Takes X (fun _ _ _ _ => False) := fun _ _ x => by
  obtain ⟨_, _, _, _, _, _, _, _, _, _, _, _, _, _, _, _, z⟩ := x
  exact z.elim
section
variable {P : Program} {w : World} {K : PySem.W.Frag} {mg : Str → Option Value} {base : Heap}
theorem Fun.okN {x qual : Str} {st : Stmt} {f : Addr} {fd : FuncData} {N ps : List Str} {k : Nat} {sp : Sp} (F : Fun K x qual st f fd) (S : FnScope N ps (defScope st)) (len : ∀ vs H Q E, sp vs H Q E → vs.length = ps.length)
    (hbody : ∀ (cdv : Value) (A : Around) (outer : List Env) (s : Shared) (H : Hp) (vs : List V) (Q : VK) (E : XK), Room k (A.deeper (envOfC qual (defScope st) s.heap.objs.size f cdv)) → sp vs H Q E →
      ∃ t, PSs (cxOf (L2N.CX P w) P w K mg base N qual (defScope st) f cdv A outer s H E) (defBody st) t ∧ t { nx := fun _ H' => Q .non H', rt := Q } (start N vs) H) : FnOk P w K mg base (L2N.CX P w) (k + 1) f fd ps sp := by
  obtain ⟨_, _, _, _, _, _, cdv, _, _, rfl, lk, hcd⟩ := F.ex
  exact fn_of lk hcd S len fun A outer s H vs Q E => hbody cdv A outer s H vs Q E
/-- a def that is called while an exception is handled -/
theorem Fun.okH {x qual : Str} {st : Stmt} {f : Addr} {fd : FuncData} {N ps : List Str} {k : Nat} {sp : Sp} (F : Fun K x qual st f fd) (S : FnScope N ps (defScope st)) (len : ∀ vs H Q E, sp vs H Q E → vs.length = ps.length)
    (hbody : ∀ (cdv : Value) (A : Around) (outer : List Env) (s : Shared) (H : Hp) (vs : List V) (Q : VK) (E : XK) (p : Addr × Obj), L2H.RoomH k (A.deeper (envOfC qual (defScope st) s.heap.objs.size f cdv)) → sp vs H Q E →
      ∃ t, PSs (L2H.cxH CX0 P w K mg base N qual (defScope st) f cdv A outer s H E p) (defBody st) t ∧ t { nx := fun _ H' => Q .non H', rt := Q } (start N vs) H) : L2H.FnH P w K mg base CX0 (k + 1) f fd ps sp := by
  obtain ⟨_, _, _, _, _, _, cdv, _, _, rfl, lk, hcd⟩ := F.ex
  exact L2H.fn_ofH lk hcd S len fun A outer s H vs Q E p _ hr hsp => hbody cdv A outer s H vs Q E p hr hsp
end
theorem hot_of {X : Cx} {a : Addr} {oe : Obj} {cls : Value} {d : Option Addr} {pn : List (Addr × Obj)} (hz : L2N.Zn cls d oe) (hf : ∃ vs, oe.data = .fields vs) : L2H.HotC (X.suite a ((a, oe) :: pn)) := by
  obtain ⟨vs, e⟩ := hf
  exact ⟨(a, oe), ⟨rfl, vs, e, hz.2.2 vs e⟩, List.mem_cons_self⟩
theorem roomH_suite {X : Cx} {a : Addr} {pn : List (Addr × Obj)} {j k : Nat} (r : Room k X.A) (h : j ≤ k) : L2H.RoomH j (X.suite a pn).A := ⟨by have := r.dp; show X.A.depth + _ + 5 < _; omega, by have := r.un; show X.A.units + _ + 200 < _; omega⟩
section
variable {X : Cx} {CX : CXT} {k : Nat} {f C : Addr} {fd : FuncData} {ps : List Str} {sp : Sp} {dvs : List V} {ds : List Value} {E : St → XK} {x m : Str} {p pos apos : Pos} {e o : Expr} {es : List Expr} {ta : TE} {t : TA}
/-- o.m() while an exception is handled -/
theorem pe_methH0 {pl : Sem Bool} (he : PE X o ta) (c : Cls X.K C) (hm : Meth X.K C m f) (F : L2H.FnH X.prog X.w X.K X.mg X.base CX k f fd ps sp) (hr : L2H.RoomH k X.A) (hc : L2H.HotC X) (hb : Binds X.K fd ps []) (hx : ∀ σ, PassesAt CX X σ (E σ))
    (ht : eval (.Call (.Attribute o m apos) [] [] pos) X.env = (do
      let ov ← eval o X.env
      standAt apos.atName
      let (f, first) ← holding [ov] (getMethod ov m pl)
      callWith pos f first (backTo pos (starEach [] X.env)) (backToKw pos (keywordEach [] X.env))) := by rfl) :
    PE X (.Call (.Attribute o m apos) [] [] pos) (tMethX C m sp [] E ta tNil) := by
  refine ⟨fun pins s σ H Q I h => ?_⟩
  refine PySem.W.methodCall_KW (pl := pl) (thn (he.run pins s σ H _ I h) fun u s1 ⟨x, H1, I1, rx, a, dx, fs, ex, ea, l, q⟩ => ?_) ht
  subst ex
  obtain rfl : u = Value.ref a := rx
  refine getmeth_ok I1 ea c hm l ?_
  exact PySem.W.callWith_K0 (first := [.ref a]) I1.kIn hm.kp (L2H.run_fnH (us := [.ref a]) (vs := [.ref a]) F hr hc hb (hx σ) I1 (.cons rfl .nil) q)
/-- C(e, ..): an own error, made where nothing is handled -/
theorem pmkN_oex {CX : CXT} {x : Str} {C fI : Addr} {k : Nat} {fd : FuncData} {ps : List Str} {sp : Sp} {ds : List Value} {dvs : List V} (T : OexC X.K C) (iC : PySem.W.findIn X.K (.ref C) "__init__" = some (some (.ref fI))) (tI : PySem.W.typeIn X.K (.ref fI) = some (.type "function"))
    (F1 : FnOk X.prog X.w X.K X.mg X.base CX k fI fd ps sp) (hr : Room (k + 1) X.A) (hb : Binds X.K fd ps ds) (hd : Vals dvs ds) (hx : Passes CX X (fun _ _ _ => False)) (hg : Gl X x) (hm : X.mg x = some (.ref C)) (ha : PA X (e :: es) t)
    (hdb : (x == ("__debug__" : Str)) = false := by decide) (he : starEach (e :: es) X.env = (false, eval e X.env) :: starEach es X.env := by rfl) (hpl : (backTo pos (starEach es X.env)).any (·.1) = false := by rfl) :
    L2N.PMk X (.Call (.Name x p) (e :: es) [] pos) (tMkO C sp dvs t) := fun pins s σ H Q I h => by
  obtain ⟨_, _, _, _, bm, _, _, _, _, _, _, _, _, _, _, hC, hbm⟩ := T.cls
  refine wpAny_Call_Name_kw (ld_glob I hg hm (PySem.W.callWith_K (h₀ := X.base) I.ok.mod.kin T.kC (thn (ha.run pos pins s σ H _ I h) fun us s1 ⟨vs, H1, I1, r1, hz, q1⟩ => ⟨I1.kIn, ?_⟩) he hpl) hdb)
  show wpAny _ _ (call (.ref C) us) _ _ _
  obtain ⟨hp, g, dr, tk, os⟩ := s1
  obtain ⟨i, hi⟩ : ∃ i, i = hp.objs.size + 1 := ⟨_, rfl⟩
  have hsz : hp.objs.size ≤ i := by omega
  have hq := q1 i (I1.hok.fresh hsz)
  obtain ⟨G, hG⟩ : ∃ G, G = (hp.push (PySem.W.kdv_tup us)).push (PySem.HandSPX.excO C hp.objs.size) := ⟨_, rfl⟩
  have kk : ∀ b o, hp.get? b = some o → G.get? b = some o := fun b o z => by rw [hG]; exact Heap.get?_push_of_some _ (Heap.get?_push_of_some _ z)
  have I2 : Inv X pins σ (upd H1 i (exo i C none)) ⟨G, g, dr, tk, os⟩ := I1.laid (t' := tk) kk hsz (exo_ok (by rw [hG, hi]; heap_get))
  have r2 : Vals (V.ref i :: (vs ++ dvs)) (Value.ref i :: (us ++ ds)) := .cons rfl (r1.append hd)
  have hl : (Value.ref i :: us ++ ds).length = ps.length := (r2.length.symm.trans (F1.len _ _ _ _ hq))
  refine wpAny_call (PySem.HandSPX.call_own F.excBase_ValueError (fun Y => PySem.HandSPX.refsVE_contains Y bm hbm) (I1.kIn _ _ hC) (PySem.W.looks_findIn I1.kIn iC) (fun self => PySem.W.bind_fn I1.kIn self tI) (by rw [← Paired.length r1, sizeLine_eq]; omega) ?_)
  have F2 := F1.run _ X.stack _ _ ⟨Value.ref i :: us, []⟩ (Value.ref i :: (us ++ ds)) _ _ (fun _ _ _ => False) (hr.make C us []) (I2.env0.make C us []) (hb _ (Value.ref i :: us) I2.kIn hl) r2 hq
  subst hi
  subst hG
  refine codeAny_mono F2 fun r s' hq' => ?_
  cases r with
  | error er => exact hx pins σ _ _ er s' I2 hq'
  | ok fl =>
    cases fl with
    | ret u =>
      obtain ⟨v, H2, os2, bare2, un2, hok2, rv, ev, d, fs, ea, ed, hd1, q2⟩ := hq'
      subst ev
      obtain ⟨h2, g2, d2, t2, os'⟩ := s'
      obtain ⟨t0, G', J, kG, ge, hoe, na⟩ := mk_end0 (d2 := d2) (t2 := t2) I1 hsz kk un2 hok2 os2 bare2 ea ed hd1
      exact ⟨rv, _, _, _, ⟨G', g2, d2, t2, os'⟩, _, .ref C, some d, rfl, J, kG, ge, hoe, ⟨rfl, rfl, fun ws hw => by cases hw; rfl⟩, rfl, rfl, na, rfl, bare2, raises_own T.exC T.tyC, q2⟩
    | next => exact False.elim hq'
    | brk => exact False.elim hq'
    | cont => exact False.elim hq'
end
end L2

namespace K46
open PySem PySem.Spec PyProof.Rows L2 Evl
def topS (i : Nat) : Stmt := PySem.Challenge.pw_monochord_k46_seek_table_faults.main.body.getD i (.Pass ⟨0, 0, 0, 0⟩)
abbrev s_MonochordError_init : Stmt := inClass (topS 1) 0
theorem sc_MonochordError_init : FnScope ["self", "place"] ["self", "place"] (defScope s_MonochordError_init) := ⟨rfl, rfl, rfl, by decide +kernel, rfl, by decide +kernel, by decide +kernel⟩
abbrev s_big_number : Stmt := topS 5
theorem sc_big_number : FnScope ["data", "place", "count", "number", "byte"] ["data", "place", "count"] (defScope s_big_number) := ⟨rfl, rfl, rfl, by decide +kernel, rfl, by decide +kernel, by decide +kernel⟩
abbrev s_read_seektable : Stmt := topS 9
theorem sc_read_seektable : FnScope ["data", "start", "stop", "points", "place", "point"] ["data", "start", "stop"] (defScope s_read_seektable) := ⟨rfl, rfl, rfl, by decide +kernel, rfl, by decide +kernel, by decide +kernel⟩
abbrev s_read_point : Stmt := topS 10
theorem sc_read_point : FnScope ["data", "place", "sample"] ["data", "place"] (defScope s_read_point) := ⟨rfl, rfl, rfl, by decide +kernel, rfl, by decide +kernel, by decide +kernel⟩
abbrev s_may_follow : Stmt := topS 11
theorem sc_may_follow : FnScope ["before", "point"] ["before", "point"] (defScope s_may_follow) := ⟨rfl, rfl, rfl, by decide +kernel, rfl, by decide +kernel, by decide +kernel⟩
abbrev s_law_is_integer : Stmt := topS 13
theorem sc_law_is_integer : FnScope ["actual"] ["actual"] (defScope s_law_is_integer) := ⟨rfl, rfl, rfl, by decide +kernel, rfl, by decide +kernel, by decide +kernel⟩
abbrev s_law_refill : Stmt := topS 14
theorem sc_law_refill : FnScope ["script", "k", "cell"] ["script", "k"] (defScope s_law_refill) := ⟨rfl, rfl, rfl, by decide +kernel, rfl, by decide +kernel, by decide +kernel⟩
abbrev s_law_draw : Stmt := topS 15
theorem sc_law_draw : FnScope ["state", "script", "size", "digit"] ["state", "script", "size"] (defScope s_law_draw) := ⟨rfl, rfl, rfl, by decide +kernel, rfl, by decide +kernel, by decide +kernel⟩
abbrev s_law_wide : Stmt := topS 16
theorem sc_law_wide : FnScope ["state", "script", "size", "kind"] ["state", "script", "size"] (defScope s_law_wide) := ⟨rfl, rfl, rfl, by decide +kernel, rfl, by decide +kernel, by decide +kernel⟩
abbrev s_law_junk : Stmt := topS 17
theorem sc_law_junk : FnScope ["state", "script", "count", "k"] ["state", "script", "count"] (defScope s_law_junk) := ⟨rfl, rfl, rfl, by decide +kernel, rfl, by decide +kernel, by decide +kernel⟩
abbrev s_law_number_bytes : Stmt := topS 19
theorem sc_law_number_bytes : FnScope ["number", "count", "k"] ["number", "count"] (defScope s_law_number_bytes) := ⟨rfl, rfl, rfl, by decide +kernel, rfl, by decide +kernel, by decide +kernel⟩
abbrev s_law_row : Stmt := topS 20
theorem sc_law_row : FnScope ["state", "script", "before", "kind", "sample"] ["state", "script", "before"] (defScope s_law_row) := ⟨rfl, rfl, rfl, by decide +kernel, rfl, by decide +kernel, by decide +kernel⟩
abbrev s_law_expected : Stmt := topS 21
theorem sc_law_expected : FnScope ["rows", "extra", "start", "points", "k", "point"] ["rows", "extra", "start"] (defScope s_law_expected) := ⟨rfl, rfl, rfl, by decide +kernel, rfl, by decide +kernel, by decide +kernel⟩
abbrev s_law_outcome : Stmt := topS 22
theorem sc_law_outcome : FnScope ["data", "start", "stop", "e"] ["data", "start", "stop"] (defScope s_law_outcome) := ⟨rfl, rfl, rfl, by decide +kernel, rfl, by decide +kernel, by decide +kernel⟩
abbrev s_law : Stmt := topS 23
theorem sc_law : FnScope ["script", "state", "rows", "body", "before", "k", "row", "extra", "start", "data"] ["script"] (defScope s_law) := ⟨rfl, rfl, rfl, by decide +kernel, rfl, by decide +kernel, by decide +kernel⟩
theorem hu64 {A : Around} {k : Nat} (hr : Room k A) : A.units + 64 < cLine := hr.units
/-! ### short words for readings -/
theorem ret_eq {v w : V} {H H' : Hp} {Q : VK} (k : RetV v H Q) (ex : Ex H H') (e : w = v) : Q w H' := e ▸ k H' ex
/-- isinstance(x, T), T a built-in class -/
theorem ev_isi {K : PySem.W.Frag} {σ : L2.St} {H : Hp} {ta : TE} {x : V} {t : String} {T : String} {b : Bool} (ha : Ev ta σ H x) (ht : ∀ H1, Ex H H1 → TyX K H1 x (.type t)) (hk : kitB t T = some b) :
    Ev (tCB (rIsi K) (tCons ta (tCons (tC (.ty T)) tNil))) σ H (.bl b) :=
  ev_cb (ea_cons ha (ea_cons ev_c ea_nil)) fun H1 e Q q => ⟨x, .ty T, _, _, b, rfl, .ty T, ht H1 e, kit_ty hk, q H1 (Ex.refl H1)⟩
theorem isi_int {K : PySem.W.Frag} {H : Hp} {i : Int} : ∀ H1, Ex H H1 → TyX K H1 (V.int i) (.type "int") := fun _ _ => .base (.int _)
theorem isi_bl {K : PySem.W.Frag} {H : Hp} {b : Bool} : ∀ H1, Ex H H1 → TyX K H1 (V.bl b) (.type "bool") := fun _ _ => .base (.bl _)
theorem isi_non {K : PySem.W.Frag} {H : Hp} : ∀ H1, Ex H H1 → TyX K H1 V.non (.type "NoneType") := fun _ _ => .base .non
theorem isi_lst {K : PySem.W.Frag} {H : Hp} {a : Addr} {xs : List V} (h : H a = some (.lst xs)) : ∀ H1, Ex H H1 → TyX K H1 (V.ref a) (.type "list") := fun _ e => .base (.lst (e _ _ h))
theorem isi_tup {K : PySem.W.Frag} {H : Hp} {a : Addr} {xs : List V} (h : H a = some (.tup xs)) : ∀ H1, Ex H H1 → TyX K H1 (V.ref a) (.type "tuple") := fun _ e => .base (.tup (e _ _ h))
theorem kit_ii : kitB "int" "int" = some true := by decide +kernel
theorem kit_ib : kitB "int" "bool" = some false := by decide +kernel
theorem kit_bb : kitB "bool" "bool" = some true := by decide +kernel
theorem kit_bi : kitB "bool" "int" = some true := by decide +kernel
theorem kit_ll : kitB "list" "list" = some true := by decide +kernel
theorem kit_tt : kitB "tuple" "tuple" = some true := by decide +kernel
theorem ev_isiI {K : PySem.W.Frag} {σ : L2.St} {H : Hp} {ta : TE} {i : Int} (ha : Ev ta σ H (.int i)) : Ev (tCB (rIsi K) (tCons ta (tCons (tC (.ty "int")) tNil))) σ H (.bl true) := ev_isi ha isi_int kit_ii
theorem ev_isiB {K : PySem.W.Frag} {σ : L2.St} {H : Hp} {ta : TE} {i : Int} (ha : Ev ta σ H (.int i)) : Ev (tCB (rIsi K) (tCons ta (tCons (tC (.ty "bool")) tNil))) σ H (.bl false) := ev_isi ha isi_int kit_ib
theorem ev_isiL {K : PySem.W.Frag} {σ : L2.St} {H : Hp} {ta : TE} {a : Addr} {xs : List V} (ha : Ev ta σ H (.ref a)) (h : H a = some (.lst xs)) : Ev (tCB (rIsi K) (tCons ta (tCons (tC (.ty "list")) tNil))) σ H (.bl true) := ev_isi ha (isi_lst h) kit_ll
theorem ev_isiBB {K : PySem.W.Frag} {σ : L2.St} {H : Hp} {ta : TE} {b : Bool} (ha : Ev ta σ H (.bl b)) : Ev (tCB (rIsi K) (tCons ta (tCons (tC (.ty "bool")) tNil))) σ H (.bl true) := ev_isi ha isi_bl kit_bb
theorem ev_chain {σ : L2.St} {H : Hp} {ta tb tc : TE} {g g' : Int → Int → Bool} {a b c : Int} (ha : Ev ta σ H (.int a)) (hb : Ev tb σ H (.int b)) (hc : Ev tc σ H (.int c)) :
    Ev (tChain (rI0 fun i j => .bl (g i j)) (rI0 fun i j => .bl (g' i j)) ta tb tc) σ H (.bl (g a b && g' b c)) := fun H1 e Q q =>
  ha H1 e _ fun H2 e2 => hb H2 (e.trans e2) _ fun H3 e3 => ⟨a, b, rfl, rfl, g a b, rfl, by
    cases hg : g a b with
    | true =>
      rw [if_pos rfl]
      rw [hg, Bool.true_and] at q
      exact hc H3 ((e.trans e2).trans e3) _ fun H4 e4 => ⟨b, c, rfl, rfl, q H4 ((e2.trans e3).trans e4)⟩
    | false =>
      rw [if_neg (by decide)]
      rw [hg, Bool.false_and] at q
      exact q H3 (e2.trans e3)⟩
theorem ev_isN {σ : L2.St} {H : Hp} {ta : TE} {x : V} (ha : Ev ta σ H x) : Ev (tOp rIsN ta (tC .non)) σ H (.bl (decide (x = .non))) := fun H1 e Q q => ha H1 e _ fun H2 e2 => ⟨rfl, q H2 e2⟩
theorem ev_notN {σ : L2.St} {H : Hp} {ta : TE} {x : V} (ha : Ev ta σ H x) : Ev (tOp rNotN ta (tC .non)) σ H (.bl (!decide (x = .non))) := fun H1 e Q q => ha H1 e _ fun H2 e2 => ⟨rfl, q H2 e2⟩
theorem ev_min2 {σ : L2.St} {H : Hp} {ta tb : TE} {i j : Int} (ha : Ev ta σ H (.int i)) (hb : Ev tb σ H (.int j)) :
    Ev (tCB (fun xs H Q => ∃ i j, xs = [.int i, .int j] ∧ Q (.int (if j < i then j else i)) H) (tCons ta (tCons tb tNil))) σ H (.int (if j < i then j else i)) :=
  ev_cb (ea_cons ha (ea_cons hb ea_nil)) fun H1 _ _ q => ⟨i, j, rfl, q H1 (Ex.refl H1)⟩
theorem ev_negI {σ : L2.St} {H : Hp} {ta : TE} {i : Int} (ha : Ev ta σ H (.int i)) : Ev (tUn (rU fun i => .int (-i)) ta) σ H (.int (-i)) := ev_un ha ru_neg
theorem ev_I0 {σ : L2.St} {H : Hp} {ta tb : TE} {g : Int → Int → V} {i j : Int} (ha : Ev ta σ H (.int i)) (hb : Ev tb σ H (.int j)) : Ev (tOp (rI0 g) ta tb) σ H (g i j) := ev_op ha hb rv_I0
theorem ev_I {σ : L2.St} {H : Hp} {ta tb : TE} {C : Int → Int → Prop} {g : Int → Int → V} {i j : Int} (ha : Ev ta σ H (.int i)) (hb : Ev tb σ H (.int j)) (hc : C i j) : Ev (tOp (rI C g) ta tb) σ H (g i j) := ev_op ha hb (rv_I hc)
theorem ev_eq {σ : L2.St} {H : Hp} {ta tb : TE} {x y : V} (ha : Ev ta σ H x) (hb : Ev tb σ H y) (hs : scal x y = true) : Ev (tOp rEq ta tb) σ H (.bl (decide (x = y))) := ev_op ha hb (rv_eq hs)
theorem ev_ne {σ : L2.St} {H : Hp} {ta tb : TE} {x y : V} (ha : Ev ta σ H x) (hb : Ev tb σ H y) (hs : scal x y = true) : Ev (tOp rNe ta tb) σ H (.bl (!decide (x = y))) := ev_op ha hb (rv_ne hs)
theorem et_B' {σ : L2.St} {H : Hp} {te : TE} {x : V} {b : Bool} (h : Ev te σ H x) (e : x = .bl b) : EvT (tB te) σ H b := et_B (e ▸ h)
theorem dec_lt {a b : Nat} : decide ((a : Int) < (b : Int)) = decide (a < b) := by
  by_cases h : a < b
  · rw [decide_eq_true h, decide_eq_true (by omega)]
  · rw [decide_eq_false h, decide_eq_false (by omega)]
theorem int_at {ns : List Int} {i : Nat} {x : V} (hx : (ns.map V.int)[i]? = some x) : ∃ n, ns[i]? = some n ∧ i < ns.length ∧ x = V.int n := by
  rw [List.getElem?_map] at hx
  cases en : ns[i]? with
  | none => rw [en] at hx; cases hx
  | some n => rw [en] at hx; exact ⟨n, rfl, (List.getElem?_eq_some_iff.mp en).1, (Option.some.inj hx).symm⟩
theorem at_int {ns : List Int} {i : Nat} {n : Int} (h : ns[i]? = some n) : (ns.map V.int)[i]? = some (V.int n) := by rw [List.getElem?_map, h]; rfl
local macro_rules | `(tactic| walk_at "side") => `(tactic| first
  | omega | (show CMul _ _; unfold CMul; omega) | (show CDiv _ _; unfold CDiv; omega) | (show CPow _ _; unfold CPow; omega) | (show (_ : Int) < _; omega) | (show (_ : Int) ≤ _; omega) | decide)
local macro_rules | `(tactic| walk_at "ev") => `(tactic| first
  | exact ev_var rfl
  | exact ev_c
  | (refine' ev_I0 ?h1 ?h2; (case h1 => walk_at "ev"); (case h2 => walk_at "ev"))
  | (refine' ev_negI ?h1; (case h1 => walk_at "ev"))
  | (refine' ev_I ?h1 ?h2 ?hc; (case h1 => walk_at "ev"); (case h2 => walk_at "ev"); (case hc => walk_at "side"))
  | (refine' ev_eq ?h1 ?h2 ?hc; (case h1 => walk_at "ev"); (case h2 => walk_at "ev"); (case hc => rfl))
  | (refine' ev_ne ?h1 ?h2 ?hc; (case h1 => walk_at "ev"); (case h2 => walk_at "ev"); (case hc => rfl))
  | (refine' ev_max2 ?h1 ?h2; (case h1 => walk_at "ev"); (case h2 => walk_at "ev"))
  | (refine' ev_min2 ?h1 ?h2; (case h1 => walk_at "ev"); (case h2 => walk_at "ev"))
  | (refine' ev_chain ?h1 ?h2 ?h3; (case h1 => walk_at "ev"); (case h2 => walk_at "ev"); (case h3 => walk_at "ev"))
  | (refine' ev_isN ?h1; (case h1 => walk_at "ev"))
  | (refine' ev_notN ?h1; (case h1 => walk_at "ev"))
  | (refine' ev_isiI ?h1; (case h1 => walk_at "ev"))
  | (refine' ev_isiB ?h1; (case h1 => walk_at "ev"))
  | (refine' ev_isiBB ?h1; (case h1 => walk_at "ev"))
  | (refine' ev_andV ?h1 (fun _ => ?h2); (case h1 => walk_at "ev"); (case h2 => walk_at "ev"))
  | (refine' ev_orV ?h1 (fun _ => ?h2); (case h1 => walk_at "ev"); (case h2 => walk_at "ev"))
  | (refine' ev_notV ?h1; (case h1 => walk_at "ev"))
  | walk_at "evmore")
local macro_rules | `(tactic| walk_at "et") => `(tactic| first
  | (refine' et_test ?h1; (case h1 => walk_at "ev"))
  | (refine' et_B ?h1; (case h1 => walk_at "ev"))
  | (refine' et_not ?h1; (case h1 => walk_at "et"))
  | (refine' et_and ?h1 (fun _ => ?h2); (case h1 => walk_at "et"); (case h2 => walk_at "et"))
  | (refine' et_or ?h1 (fun _ => ?h2); (case h1 => walk_at "et"); (case h2 => walk_at "et")))
local macro_rules | `(tactic| walk_at "ea") => `(tactic| first
  | exact ea_nil
  | (refine' ea_cons ?h1 ?h2; (case h1 => walk_at "ev"); (case h2 => walk_at "ea")))
local macro_rules | `(tactic| walk_at "when") => `(tactic| (refine' q_when ?h ?h1 ?h2; (case h => walk_at "et")))
local macro_rules | `(tactic| walk_at "whenS") => `(tactic| (refine' s_when ?h ?h1 ?h2; (case h => walk_at "et")))
local macro_rules | `(tactic| walk_at "if") => `(tactic| (refine' q_if ?h ?h1 ?h2; (case h => walk_at "et")))
local macro_rules | `(tactic| walk_at "ifS") => `(tactic| (refine' s_if ?h ?h1 ?h2; (case h => walk_at "et")))
local macro_rules | `(tactic| walk_at "ret") => `(tactic| (refine' s_ret ?h ?h1; (case h => walk_at "ev")))
local macro_rules | `(tactic| walk_at "asg") => `(tactic| (refine' q_asg ?h ?h1; (case h => walk_at "ev")))
local macro_rules | `(tactic| walk_at "asgS") => `(tactic| (refine' s_asg ?h ?h1; (case h => walk_at "ev")))

/-! ### lists, existing or new -/
def EvR (te : TE) (σ : L2.St) (H : Hp) (xs : List V) : Prop := ∀ H1, Ex H H1 → ∀ Q : VK, (∀ p H2, Ex H1 H2 → H2 p = some (.lst xs) → Q (.ref p) H2) → te σ H1 Q
def EvS (K : PySem.W.Frag) (te : TE) (σ : L2.St) (H : Hp) (xs : List V) : Prop := ∀ H1, Ex H H1 → ∀ Q : VK, (∀ p H2, Ex H1 H2 → SqL K H2 p xs → Q (.ref p) H2) → te σ H1 Q
section
variable {K : PySem.W.Frag} {σ : L2.St} {H H' : Hp} {ta tb te : TE} {xs ys : List V} {a : Addr}
theorem EvL.r (h : EvL te σ H xs) : EvR te σ H xs := fun H1 e Q q => h H1 e Q fun p H2 _ e2 h2 => q p H2 e2 h2
theorem Ev.r (h : Ev te σ H (.ref a)) (hx : H a = some (.lst xs)) : EvR te σ H xs := fun H1 e Q q => h H1 e Q fun H2 e2 => q a H2 e2 (e2 _ _ (e _ _ hx))
theorem EvR.s (h : EvR te σ H xs) : EvS K te σ H xs := fun H1 e Q q => h H1 e Q fun p H2 e2 h2 => q p H2 e2 (sq_of h2)
theorem Ev.s (h : Ev te σ H (.ref a)) (hx : SqL K H a xs) : EvS K te σ H xs := fun H1 e Q q => h H1 e Q fun H2 e2 => q a H2 e2 (ex_l e2 (ex_l e hx))
theorem EvR.mono (e : Ex H H') (h : EvR te σ H xs) : EvR te σ H' xs := fun H1 a Q q => h H1 (e.trans a) Q q
theorem EvS.mono (e : Ex H H') (h : EvS K te σ H xs) : EvS K te σ H' xs := fun H1 a Q q => h H1 (e.trans a) Q q
theorem EvL.is (h : EvL te σ H xs) (e : xs = ys) : EvL te σ H ys := e ▸ h
theorem EvR.is (h : EvR te σ H xs) (e : xs = ys) : EvR te σ H ys := e ▸ h
theorem el_cat (ha : EvR ta σ H xs) (hb : EvR tb σ H ys) (hl : xs.length + ys.length ≤ 100000) : EvL (tOp rCat ta tb) σ H (xs ++ ys) := fun H1 e Q q =>
  ha H1 e _ fun p H2 e2 h2 => hb H2 (e.trans e2) _ fun r H3 e3 h3 => ⟨p, r, xs, ys, rfl, rfl, e3 _ _ h2, h3, sz_of hl, fun l hl => q l _ (fresh_back (e2.trans e3) hl) ((e2.trans e3).trans (Ex.new hl)) upd_same⟩
theorem el_rep {k : Int} (ha : EvR ta σ H xs) (hb : Ev tb σ H (.int k)) (hk : -(2 ^ 63) ≤ k ∧ k < 2 ^ 63) (hl : xs.length * k.toNat ≤ 100000) : EvL (tOp rRep ta tb) σ H (List.replicate k.toNat xs).flatten := fun H1 e Q q =>
  ha H1 e _ fun p H2 e2 h2 => hb H2 (e.trans e2) _ fun H3 e3 => ⟨p, k, xs, rfl, rfl, e3 _ _ h2, hk.1, hk.2, sz_of hl, fun l hl => q l _ (fresh_back (e2.trans e3) hl) ((e2.trans e3).trans (Ex.new hl)) upd_same⟩
theorem rep_one {x : V} (n : Nat) : (List.replicate n [x]).flatten = List.replicate n x := by
  induction n with
  | zero => rfl
  | succ n ih => rw [List.replicate_succ, List.replicate_succ, List.flatten_cons, ih]; rfl
theorem el_of {te : TE} (h : EvS K te σ H xs) : EvL (tCB (rListS K) (tCons te tNil)) σ H xs := fun H1 e Q q =>
  h H1 e _ fun p H2 e2 h2 => ⟨p, xs, rfl, .inl h2, fun l hl => q l _ (fresh_back e2 hl) (e2.trans (Ex.new hl)) upd_same⟩
theorem ev_lenS (h : EvS K te σ H xs) : Ev (tCB (rLenS K) (tCons te tNil)) σ H (.int (xs.length : Int)) := fun H1 e Q q =>
  h H1 e _ fun p H2 e2 h2 => ⟨p, xs, rfl, .inl h2, q H2 e2⟩
theorem ev_sum {ns : List Int} (h : EvS K te σ H (ns.map V.int)) : Ev (tCB (rSum K) (tCons te tNil)) σ H (.int ns.sum) := fun H1 e Q q =>
  h H1 e _ fun p H2 e2 h2 => ⟨p, ns, rfl, h2, q H2 e2⟩
theorem dp_ints {K : PySem.W.Frag} {H : Hp} : ∀ ns : List Int, DpAll K H (ns.map V.int) (ns.map PyData.int)
  | [] => .nil
  | n :: r => .cons (.int n) (dp_ints r)
theorem eqv_ints : ∀ ns ms : List Int, PyData.eqvAll (ns.map PyData.int) (ms.map PyData.int) = decide (ns = ms)
  | [], [] => by simp [PyData.eqvAll]
  | [], _ :: _ => by simp [PyData.eqvAll]
  | _ :: _, [] => by simp [PyData.eqvAll]
  | n :: r, m :: t => by
    show (PyData.eqv (.int n) (.int m) && PyData.eqvAll (r.map PyData.int) (t.map PyData.int)) = _
    rw [eqv_ints r t]
    show ((n == m) && decide (r = t)) = _
    by_cases h1 : n = m <;> by_cases h2 : r = t <;> simp [h1, h2]
theorem canLay_ints : ∀ ns : List Int, PyData.canLayAll0 (ns.map PyData.int) = true
  | [] => by simp [PyData.canLayAll0]
  | n :: r => by
    show PyData.canLayAll0 (PyData.int n :: r.map PyData.int) = true
    rw [PyData.canLayAll0, canLay_ints r]
    simp [PyData.canLay0]
theorem depth_ints : ∀ ns : List Int, PyData.depthAll (ns.map PyData.int) ≤ 1
  | [] => by simp [PyData.depthAll]
  | n :: r => by
    show PyData.depthAll (PyData.int n :: r.map PyData.int) ≤ 1
    have := depth_ints r
    simp only [PyData.depthAll, PyData.depth]
    omega
theorem shaped_ints (ns : List Int) : SeqAt.shaped (.list (ns.map PyData.int)) = true := by
  unfold SeqAt.shaped
  have h1 := canLay_ints ns
  have h2 := depth_ints ns
  have h3 : PyData.depth (.list (ns.map PyData.int)) ≤ 64 := by
    rw [PyData.depth]
    omega
  rw [decide_eq_true h3, Bool.and_true]
  simpa only [PyData.canLay0] using h1
theorem ev_eqI {ns ms : List Int} (ha : EvS K ta σ H (ns.map V.int)) (hb : EvS K tb σ H (ms.map V.int)) : Ev (tOp (rEqD K) ta tb) σ H (.bl (decide (ns = ms))) := fun H1 e Q q =>
  ha H1 e _ fun p H2 e2 h2 => hb H2 (e.trans e2) _ fun r H3 e3 h3 => ⟨.list (ns.map PyData.int), .list (ms.map PyData.int), .lst (ex_l e3 h2) (dp_ints ns), .lst h3 (dp_ints ms), shaped_ints ns, shaped_ints ms, by
    show Q (.bl (PyData.eqvAll (ns.map PyData.int) (ms.map PyData.int))) H3
    rw [eqv_ints]
    exact q H3 (e2.trans e3)⟩
theorem ev_neI {ns ms : List Int} (ha : EvS K ta σ H (ns.map V.int)) (hb : EvS K tb σ H (ms.map V.int)) : Ev (tOp (rNeD K) ta tb) σ H (.bl (!decide (ns = ms))) := fun H1 e Q q =>
  ha H1 e _ fun p H2 e2 h2 => hb H2 (e.trans e2) _ fun r H3 e3 h3 => ⟨.list (ns.map PyData.int), .list (ms.map PyData.int), .lst (ex_l e3 h2) (dp_ints ns), .lst h3 (dp_ints ms), shaped_ints ns, shaped_ints ms, by
    show Q (.bl (!PyData.eqvAll (ns.map PyData.int) (ms.map PyData.int))) H3
    rw [eqv_ints]
    exact q H3 (e2.trans e3)⟩
theorem ev_ixS {i : Nat} {n : Int} {tl ti : TE} {v : V} (h : EvS K tl σ H xs) (hi : Ev ti σ H (.int n)) (ha : atI xs n = some v) : Ev (tOp (rIxL K) tl ti) σ H v := fun H1 e Q q =>
  h H1 e _ fun p H2 e2 h2 => hi H2 (e.trans e2) _ fun H3 e3 => ⟨p, xs, n, v, rfl, rfl, ex_l e3 h2, ha, q H3 (e2.trans e3)⟩
theorem el_slS {tl th : TO} {lo hi : Option Int} (h : EvS K te σ H xs) (h1 : EvO tl σ H lo) (h2 : EvO th σ H hi) : EvL (tSl (rSlL K) te tl th) σ H (cutV xs lo hi) := fun H1 e _ q =>
  h H1 e _ fun a H2 e2 hs => h1 H2 (e.trans e2) _ fun H3 e3 => h2 H3 ((e.trans e2).trans e3) _ fun H4 e4 =>
    ⟨a, xs, rfl, ex_l (e3.trans e4) hs, fun p hp => q p _ (fresh_back ((e2.trans e3).trans e4) hp) (((e2.trans e3).trans e4).trans (Ex.new hp)) upd_same⟩
theorem ev_at {n : Int} {tl ti : TE} {v : V} (h : EvS K tl σ H xs) (hi : Ev ti σ H (.int n)) (ha : atI xs n = some v) : Ev (tOp (rIxL K) tl ti) σ H v := ev_ixS (i := 0) h hi ha
theorem cut_to (xs : List V) (i : Nat) : cutV xs none (some (i : Int)) = xs.take i := by
  unfold cutV
  rw [HT.sIx_none, HT.sIx_nat, List.drop_zero, Nat.sub_zero]
  by_cases h : i ≤ xs.length
  · rw [Nat.min_eq_left h]
  · rw [Nat.min_eq_right (by omega), List.take_of_length_le (Nat.le_refl _), List.take_of_length_le (by omega)]
theorem cut_from (xs : List V) (i : Nat) : cutV xs (some (i : Int)) none = xs.drop i := by
  unfold cutV
  rw [HT.sIx_none, HT.sIx_nat]
  by_cases h : i ≤ xs.length
  · rw [Nat.min_eq_left h, List.take_of_length_le (by rw [List.length_drop]; omega)]
  · rw [Nat.min_eq_right (by omega), List.drop_of_length_le (Nat.le_refl _), List.drop_of_length_le (show xs.length ≤ i by omega), List.take_nil]
theorem cut_mid (xs : List V) (i j : Nat) : cutV xs (some (i : Int)) (some (j : Int)) = (xs.drop i).take (j - i) := by
  unfold cutV
  rw [HT.sIx_nat, HT.sIx_nat]
  by_cases h : i ≤ xs.length
  · rw [Nat.min_eq_left h]
    by_cases h2 : j ≤ xs.length
    · rw [Nat.min_eq_left h2]
    · rw [Nat.min_eq_right (by omega), List.take_of_length_le (by rw [List.length_drop]; omega), List.take_of_length_le (by rw [List.length_drop]; omega)]
  · rw [Nat.min_eq_right (by omega : xs.length ≤ i), List.drop_of_length_le (Nat.le_refl _), List.drop_of_length_le (show xs.length ≤ i by omega)]
    simp
theorem el_to {th : TE} {ns : List Int} {i : Nat} (h : EvS K te σ H (ns.map V.int)) (h2 : Ev th σ H (.int i)) : EvL (tSl (rSlL K) te tNoPart (tPart th)) σ H ((ns.take i).map V.int) :=
  EvL.is (el_slS h eo_none (eo_some h2)) (by rw [List.map_take]; exact cut_to _ i)
theorem el_from {th : TE} {ns : List Int} {i : Nat} (h : EvS K te σ H (ns.map V.int)) (h2 : Ev th σ H (.int i)) : EvL (tSl (rSlL K) te (tPart th) tNoPart) σ H ((ns.drop i).map V.int) :=
  EvL.is (el_slS h (eo_some h2) eo_none) (by rw [List.map_drop]; exact cut_from _ i)
theorem el_mid {t1 t2 : TE} {ns : List Int} {i j : Nat} (h : EvS K te σ H (ns.map V.int)) (h1 : Ev t1 σ H (.int i)) (h2 : Ev t2 σ H (.int j)) : EvL (tSl (rSlL K) te (tPart t1) (tPart t2)) σ H (((ns.drop i).take (j - i)).map V.int) :=
  EvL.is (el_slS h (eo_some h1) (eo_some h2)) (by rw [List.map_take, List.map_drop]; exact cut_mid _ i j)
section
variable {D : Ends} {tz : TS} {sp : Sp} {dvs vs : List V} {E : XK} {tA : TA}
/-- x = f(..), whatever f promises -/
theorem q_asgC {i : Nat} (h : EvA tA σ H vs) (k : ∀ H1, Ex H H1 → sp (vs ++ dvs) H1 (fun x H2 => tz D (σ.set i (some x)) H2) E) : tSeq (tAsg (tCall sp dvs E tA) (gName i)) tz D σ H := h H (Ex.refl H) _ fun H1 e => k H1 e
theorem s_asgC {i : Nat} (h : EvA tA σ H vs) (k : ∀ H1, Ex H H1 → sp (vs ++ dvs) H1 (fun x H2 => D.nx (σ.set i (some x)) H2) E) : tAsg (tCall sp dvs E tA) (gName i) D σ H := h H (Ex.refl H) _ fun H1 e => k H1 e
theorem q_dropC (h : EvA tA σ H vs) (k : ∀ H1, Ex H H1 → sp (vs ++ dvs) H1 (fun _ H2 => tz D σ H2) E) : tSeq (tDrop (tCall sp dvs E tA)) tz D σ H := h H (Ex.refl H) _ fun H1 e => k H1 e
theorem s_retC (h : EvA tA σ H vs) (k : ∀ H1, Ex H H1 → sp (vs ++ dvs) H1 D.rt E) : tRet (tCall sp dvs E tA) D σ H := h H (Ex.refl H) _ fun H1 e => k H1 e
end
theorem gl_get {ns : List Int} {i : Nat} (h : i < ns.length) : ns[i]? = some (ns.getD i 0) := by
  rw [List.getD_eq_getElem?_getD, List.getElem?_eq_getElem h]
  rfl
theorem q_asgRaw {te : TE} {i : Nat} {D : Ends} {tz : TS} (P : V → Hp → Prop) (h : ∀ Q : VK, (∀ x H2, P x H2 → Q x H2) → te σ H Q) (k : ∀ x H2, P x H2 → tz D (σ.set i (some x)) H2) : tSeq (tAsg te (gName i)) tz D σ H := h _ k
/-- a, b = a pair -/
theorem q_asgT {te : TE} {i j : Nat} {D : Ends} {tz : TS} (P : V → V → Hp → Prop) (h : ∀ Q : VK, (∀ t x y H2, P x y H2 → SqT K H2 t [x, y] → Q (.ref t) H2) → te σ H Q) (k : ∀ x y H2, P x y H2 → tz D ((σ.set i (some x)).set j (some y)) H2) :
    tSeq (tAsg te (gTup K 2 (gCons (gName i) (gCons (gName j) gNil)))) tz D σ H := h _ fun t x y H2 hP hT => ⟨t, [x, y], rfl, hT, rfl, x, [y], rfl, y, [], rfl, rfl, k x y H2 hP⟩
/-- the law's cell -/
def cellI (ns : List Int) (k : Int) : Int := ns.getD k.toNat 0
theorem cellI_in {ns : List Int} {k : Int} (h0 : 0 ≤ k) (h : k < ns.length) : ns[k.toNat]? = some (cellI ns k) := by
  unfold cellI
  rw [List.getD_eq_getElem?_getD, List.getElem?_eq_getElem (by omega)]
  rfl
theorem cellI_out {ns : List Int} {k : Int} (h : ¬ k < ns.length) : cellI ns k = 0 := by
  unfold cellI
  rw [List.getD_eq_getElem?_getD, List.getElem?_eq_none (by omega)]
  rfl
end
theorem Ex.get {H H' : Hp} {a : Addr} {o : HO} (e : Ex H H') (h : H a = some o) : H' a = some o := e a o h
local macro_rules | `(tactic| walk_at "hp") => `(tactic| first
  | assumption
  | exact upd_same
  | (refine' Ex.get (by assumption) ?h1; (case h1 => walk_at "hp")))
local macro_rules | `(tactic| walk_at "ex") => `(tactic| first
  | assumption
  | exact Ex.refl _
  | (refine' Ex.trans ?h1 (by assumption); (case h1 => walk_at "ex")))
local macro_rules | `(tactic| walk_at "sq") => `(tactic| first
  | assumption
  | (refine' sq_of ?h1; (case h1 => walk_at "hp"))
  | (refine' ex_l (by assumption) ?h1; (case h1 => walk_at "sq")))
local macro_rules | `(tactic| walk_at "evs") => `(tactic| first
  | (refine' Ev.s ?h1 ?h2; (case h1 => exact ev_var rfl); (case h2 => walk_at "sq"))
  | (refine' EvR.s ?h1; (case h1 => walk_at "evr")))
local macro_rules | `(tactic| walk_at "evr") => `(tactic| first
  | (refine' Ev.r ?h1 ?h2; (case h1 => exact ev_var rfl); (case h2 => walk_at "hp"))
  | (refine' EvL.r ?h1; (case h1 => walk_at "el")))
local macro_rules | `(tactic| walk_at "eo") => `(tactic| first
  | exact eo_none
  | (refine' eo_some ?h1; (case h1 => walk_at "ev")))
local macro_rules | `(tactic| walk_at "el") => `(tactic| first
  | (refine' el_lst ?h1 ?h2; (case h1 => walk_at "ea"); (case h2 => exact Nat.le_of_ble_eq_true rfl))
  | (refine' el_cat ?h1 ?h2 ?h3; (case h1 => walk_at "evr"); (case h2 => walk_at "evr"); (case h3 => walk_at "len"))
  | (refine' el_rep ?h1 ?h2 ?h3 ?h4; (case h1 => walk_at "evr"); (case h2 => walk_at "ev"); (case h3 => walk_at "side2"); (case h4 => walk_at "len"))
  | (refine' el_of ?h1; (case h1 => walk_at "evs"))
  | (refine' el_to ?h1 ?h2; (case h1 => walk_at "evs"); (case h2 => walk_at "ev"))
  | (refine' el_from ?h1 ?h2; (case h1 => walk_at "evs"); (case h2 => walk_at "ev"))
  | (refine' el_mid ?h1 ?h2 ?h3; (case h1 => walk_at "evs"); (case h2 => walk_at "ev"); (case h3 => walk_at "ev"))
  | (refine' el_slS ?h1 ?h2 ?h3; (case h1 => walk_at "evs"); (case h2 => walk_at "eo"); (case h3 => walk_at "eo"))
  | walk_at "elmore")
local macro_rules | `(tactic| walk_at "evmore") => `(tactic| first
  | (refine' ev_lenS ?h1; (case h1 => walk_at "evs"))
  | (refine' ev_sum ?h1; (case h1 => walk_at "evs"))
  | (refine' ev_eqI ?h1 ?h2; (case h1 => walk_at "evs"); (case h2 => walk_at "evs"))
  | (refine' ev_neI ?h1 ?h2; (case h1 => walk_at "evs"); (case h2 => walk_at "evs"))
  | (refine' ev_at ?h1 ?h2 ?h3; (case h1 => walk_at "evs"); (case h2 => walk_at "ev"); (case h3 => walk_at "at"))
  | (refine' ev_isiL ?h1 ?h2; (case h1 => walk_at "ev"); (case h2 => walk_at "hp"))
  | walk_at "evown")
local macro_rules | `(tactic| walk_at "at") => `(tactic| first
  | exact at_of rfl (at_int (by assumption))
  | exact at_of rfl (by assumption))
local macro_rules | `(tactic| walk_at "asgL") => `(tactic| (refine' q_asgL ?h ?h1; (case h => walk_at "el")))
local macro_rules | `(tactic| walk_at "retL") => `(tactic| (refine' s_retL ?h ?h1; (case h => walk_at "el")))

/-- a walk's reading said in other words -/
theorem PI.k {X : Cx} {tg e : Expr} {wi wi' : TI} (h : PI X tg e wi) (q : wi = wi') : PI X tg e wi' := q ▸ h
/-! ### comprehensions whose items are said in a list -/
theorem et_yes {σ : L2.St} {H : Hp} : EvT tYes σ H true := fun H1 _ _ q => q H1 (Ex.refl H1)
section
variable {K : PySem.W.Frag} {σ : L2.St} {H : Hp} {t1 t2 te : TE} {xs ys zs : List V} {vs : List Nat}
theorem take_snoc {zs : List V} {i : Nat} {z : V} (h : zs[i]? = some z) : zs.take (i + 1) = zs.take i ++ [z] := by
  rw [List.take_add_one, h]
  rfl
theorem el_lcZ {j1 j2 : Nat} (zs : List V) (h1 : EvS K t1 σ H xs) (h2 : EvS K t2 σ H ys) (hz : zs.length = min xs.length ys.length) (hb : zs.length ≤ 50000)
    (hw : ∀ x y, wipe (((wipe σ vs).set j1 (some x)).set j2 (some y)) vs = wipe σ vs)
    (he : ∀ (i : Nat) (x y : V) H1, Ex H H1 → xs[i]? = some x → ys[i]? = some y → ∃ z, zs[i]? = some z ∧ Ev te (((wipe σ vs).set j1 (some x)).set j2 (some y)) H1 z) :
    EvL (tLc (iZip K (tCons t1 (tCons t2 tNil))) (gTup K 2 (gCons (gName j1) (gCons (gName j2) gNil))) tYes te vs) σ H zs := fun H0 e Q q =>
  h1 H0 e _ fun p H1 e1 hp => h2 H1 (e.trans e1) _ fun r H2 e2 hr => ⟨p, r, xs, ys, rfl, ex_l e2 hp, hr, fun D hD =>
    ⟨fun i m H' => m = zs.length - i ∧ i ≤ zs.length ∧ Ex H2 H' ∧ H' D = some (.lst (zs.take i)), ⟨zs.length, rfl, Nat.zero_le _, Ex.new hD, upd_same⟩, by
      rintro i m H' ⟨rfl, hi, ex, hd⟩
      have qx : SqL K H' p xs := ex_l (e2.trans ex) hp
      have qy : SqL K H' r ys := ex_l ex hr
      by_cases hlt : i < zs.length
      · have hx : xs[i]? = some xs[i] := List.getElem?_eq_getElem (by omega)
        have hy : ys[i]? = some ys[i] := List.getElem?_eq_getElem (by omega)
        refine .inr ⟨⟨xs, ys, _, _, qx, qy, hx, hy⟩, fun H3 => i + 1 ≤ zs.length ∧ Ex H2 H3 ∧ H3 D = some (.lst (zs.take (i + 1))), fun H3 h3 => ⟨zs.length - (i + 1), by omega, rfl, h3⟩, fun v H3 hv => ?_⟩
        obtain ⟨T, x, y, rfl, hT, rfl, f1, f2⟩ := hv
        have ex3 : Ex H' (upd H' T (.tup [x, y])) := Ex.new hT
        obtain ⟨z, hz1, hz2⟩ := he i x y (upd H' T (.tup [x, y])) ((((e.trans e1).trans e2).trans ex).trans ex3) (f1 _ qx) (f2 _ qy)
        refine ⟨T, [x, y], rfl, st_of upd_same, rfl, x, [y], rfl, y, [], rfl, rfl, hw x y, ?_⟩
        refine hz2 _ (Ex.refl _) _ fun H4 e4 => ⟨zs.take i, e4 _ _ (ex3 _ _ hd), sz_lt (by rw [List.length_take]; omega), hlt, ?_, ?_⟩
        · exact Ex.mut ((ex.trans ex3).trans e4) hD
        · rw [upd_same, take_snoc hz1]
      · have ei : i = zs.length := by omega
        refine .inl ⟨⟨xs, ys, qx, qy, by omega⟩, ?_⟩
        rw [ei, List.take_length] at hd
        exact q D H' (fresh_back (e1.trans e2) hD) ((e1.trans e2).trans ex) hd⟩⟩
/-- over a list, each item kept -/
theorem el_lcS {j : Nat} (zs : List V) (h1 : EvS K t1 σ H xs) (hz : zs.length = xs.length) (hb : zs.length ≤ 50000) (hw : ∀ x, wipe ((wipe σ vs).set j (some x)) vs = wipe σ vs)
    (he : ∀ (i : Nat) (x : V) H1, Ex H H1 → xs[i]? = some x → ∃ z, zs[i]? = some z ∧ Ev te ((wipe σ vs).set j (some x)) H1 z) :
    EvL (tLc (iList K t1) (gName j) tYes te vs) σ H zs := fun H0 e Q q =>
  h1 H0 e _ fun p H1 e1 hp => ⟨p, rfl, ⟨xs, hp⟩, fun D hD => lc_list (xs := xs) (fun i H' => Ex H1 H' ∧ H' D = some (.lst (zs.take i))) ⟨Ex.new hD, upd_same⟩ (fun i H' _ h => ex_l h.1 hp)
    (fun i x H' hi h => ⟨hw x, by
      obtain ⟨z, hz1, hz2⟩ := he i x H' ((e.trans e1).trans h.1) hi
      have hl : i < xs.length := (List.getElem?_eq_some_iff.mp hi).1
      refine hz2 H' (Ex.refl _) _ fun H4 e4 => ⟨zs.take i, e4 _ _ h.2, sz_lt (by rw [List.length_take]; omega), Ex.mut (h.1.trans e4) hD, ?_⟩
      rw [upd_same, take_snoc hz1]⟩)
    (fun H' h => q D H' (fresh_back e1 hD) (e1.trans h.1) (by rw [h.2, ← hz, List.take_length]))⟩
/-- over range(n) -/
theorem el_lcR {ta : TA} {n : Int} {j : Nat} (zs : List V) (h1 : EvA ta σ H [.int n]) (hn : -100000 ≤ n) (hz : zs.length = n.toNat) (hb : zs.length ≤ 50000) (hw : ∀ x, wipe ((wipe σ vs).set j (some x)) vs = wipe σ vs)
    (he : ∀ (i : Nat) H1, Ex H H1 → i < zs.length → ∃ z, zs[i]? = some z ∧ Ev te ((wipe σ vs).set j (some (.int (i : Int)))) H1 z) :
    EvL (tLc (iRng1 ta) (gName j) tYes te vs) σ H zs := fun H0 e Q q =>
  h1 H0 e _ fun H1 e1 => ⟨n, rfl, by omega, by omega, fun D hD => lc_range (lo := 0) (n := n.toNat) (fun i H' => Ex H1 H' ∧ H' D = some (.lst (zs.take i))) ⟨Ex.new hD, upd_same⟩
    (fun i H' hi h => by
      have e0 : (0 : Int) + (i : Int) = (i : Int) := Int.zero_add _
      rw [e0]
      obtain ⟨z, hz1, hz2⟩ := he i H' ((e.trans e1).trans h.1) (by omega)
      refine ⟨hw _, hz2 H' (Ex.refl _) _ fun H4 e4 => ⟨zs.take i, e4 _ _ h.2, sz_lt (by rw [List.length_take]; omega), Ex.mut (h.1.trans e4) hD, ?_⟩⟩
      rw [upd_same, take_snoc hz1])
    (fun H' h => q D H' (fresh_back e1 hD) (e1.trans h.1) (by rw [h.2, show n.toNat = zs.length by omega, List.take_length]))⟩
/-- y = [.. for x in f(..)], whatever f promises -/
theorem s_asgLC {sp : Sp} {dvs args : List V} {E : XK} {ta : TA} {g : TG} {tt : TT} {D : Ends} {i : Nat} (h : EvA ta σ H args) (k : ∀ H1, Ex H H1 → sp (args ++ dvs) H1 (fun x H2 => tAsg (tLc (iList K (tC x)) g tt te vs) (gName i) D σ H2) E) :
    tAsg (tLc (iList K (tCall sp dvs E ta)) g tt te vs) (gName i) D σ H := h H (Ex.refl H) _ fun H1 e => k H1 e
theorem q_asgLC {sp : Sp} {dvs args : List V} {E : XK} {ta : TA} {g : TG} {tt : TT} {D : Ends} {i : Nat} {tz : TS} (h : EvA ta σ H args) (k : ∀ H1, Ex H H1 → sp (args ++ dvs) H1 (fun x H2 => tSeq (tAsg (tLc (iList K (tC x)) g tt te vs) (gName i)) tz D σ H2) E) :
    tSeq (tAsg (tLc (iList K (tCall sp dvs E ta)) g tt te vs) (gName i)) tz D σ H := h H (Ex.refl H) _ fun H1 e => k H1 e
end

/-- [.. for j in range(lo, n)] -/
theorem el_lcR2 {σ : L2.St} {H : Hp} {te : TE} {vs : List Nat} {ta : TA} {lo n : Int} {j : Nat} (zs : List V) (h1 : EvA ta σ H [.int lo, .int n]) (hn : -100000 ≤ lo ∧ lo ≤ 100000 ∧ -100000 ≤ n ∧ n ≤ 100000) (hz : zs.length = (n - lo).toNat) (hb : zs.length ≤ 50000) (hw : ∀ x, wipe ((wipe σ vs).set j (some x)) vs = wipe σ vs)
    (he : ∀ (i : Nat) H1, Ex H H1 → i < zs.length → ∃ z, zs[i]? = some z ∧ Ev te ((wipe σ vs).set j (some (.int (lo + (i : Int))))) H1 z) :
    EvL (tLc (iRng2 ta) (gName j) tYes te vs) σ H zs := fun H0 e Q q =>
  h1 H0 e _ fun H1 e1 => ⟨lo, n, rfl, ⟨by omega, by omega, by omega, by omega⟩, fun D hD => lc_range (lo := lo) (n := (n - lo).toNat) (fun i H' => Ex H1 H' ∧ H' D = some (.lst (zs.take i))) ⟨Ex.new hD, upd_same⟩
    (fun i H' hi h => by
      obtain ⟨z, hz1, hz2⟩ := he i H' ((e.trans e1).trans h.1) (by omega)
      refine ⟨hw _, hz2 H' (Ex.refl _) _ fun H4 e4 => ⟨zs.take i, e4 _ _ h.2, sz_lt (by rw [List.length_take]; omega), Ex.mut (h.1.trans e4) hD, ?_⟩⟩
      rw [upd_same, take_snoc hz1])
    (fun H' h => q D H' (fresh_back e1 hD) (e1.trans h.1) (by rw [h.2, ← hz, List.take_length]))⟩

/-! ### data at any depth -/
mutual
theorem dp_ex {K : PySem.W.Frag} {H H' : Hp} (e : Ex H H') : ∀ (d : PyData) (v : V), Dp K H v d → Dp K H' v d
  | .none, _, h => by cases h; exact .non
  | .bool b, _, h => by cases h; exact .bl b
  | .int i, _, h => by cases h; exact .int i
  | .str x, _, h => by cases h; exact .str x
  | .list ds, _, h => by cases h with | lst hs ha => exact .lst (ex_l e hs) (dpa_ex e ds _ ha)
  | .tuple ds, _, h => by cases h with | tup hs ha => exact .tup (ex_t e hs) (dpa_ex e ds _ ha)
  | .dict _, _, h => by cases h
theorem dpa_ex {K : PySem.W.Frag} {H H' : Hp} (e : Ex H H') : ∀ (ds : List PyData) (vs : List V), DpAll K H vs ds → DpAll K H' vs ds
  | [], _, h => by cases h; exact .nil
  | d :: ds, _, h => by cases h with | cons h1 h2 => exact .cons (dp_ex e d _ h1) (dpa_ex e ds _ h2)
end
def EvD (K : PySem.W.Frag) (te : TE) (σ : L2.St) (H : Hp) (d : PyData) : Prop := ∀ H1, Ex H H1 → ∀ Q : VK, (∀ v H2, Ex H1 H2 → Dp K H2 v d → Q v H2) → te σ H1 Q
section
variable {K : PySem.W.Frag} {σ : L2.St} {H : Hp} {te ta tb t1 t2 t3 : TE} {d d1 d2 d3 : PyData} {v : V}
theorem EvD.of (h : Ev te σ H v) (hd : Dp K H v d) : EvD K te σ H d := fun H1 e Q q => h H1 e _ fun H2 e2 => q v H2 e2 (dp_ex (e.trans e2) d v hd)
theorem EvS.toD {ns : List Int} (h : EvS K te σ H (ns.map V.int)) : EvD K te σ H (.list (ns.map .int)) := fun H1 e Q q => h H1 e _ fun p H2 e2 hp => q (.ref p) H2 e2 (.lst hp (dp_ints ns))
theorem ed_tup2 (h1 : EvD K t1 σ H d1) (h2 : EvD K t2 σ H d2) : EvD K (tTup (tCons t1 (tCons t2 tNil))) σ H (.tuple [d1, d2]) := fun H1 e Q q => h1 H1 e _ fun v H2 e2 hv => h2 H2 (e.trans e2) _ fun u H3 e3 hu =>
  ⟨sz_of (show 2 ≤ 100000 by decide), fun p hp => q (.ref p) _ ((e2.trans e3).trans (Ex.new hp)) (.tup (st_of upd_same) (.cons (dp_ex (e3.trans (Ex.new hp)) _ _ hv) (.cons (dp_ex (Ex.new hp) _ _ hu) .nil)))⟩
theorem ev_eqDD (h1 : EvD K ta σ H d) (h2 : EvD K tb σ H d) (hs : SeqAt.shaped d = true) : Ev (tOp (rEqD K) ta tb) σ H (.bl true) := fun H1 e Q q => h1 H1 e _ fun v H2 e2 hv => h2 H2 (e.trans e2) _ fun u H3 e3 hu =>
  ⟨d, d, dp_ex e3 d v hv, hu, hs, hs, by rw [SeqAt.eqv_refl d (SeqAt.canLay_of_shaped hs)]; exact q H3 (e2.trans e3)⟩
theorem ev_neDD (h1 : EvD K ta σ H d) (h2 : EvD K tb σ H d) (hs : SeqAt.shaped d = true) : Ev (tOp (rNeD K) ta tb) σ H (.bl false) := fun H1 e Q q => h1 H1 e _ fun v H2 e2 hv => h2 H2 (e.trans e2) _ fun u H3 e3 hu =>
  ⟨d, d, dp_ex e3 d v hv, hu, hs, hs, by rw [SeqAt.eqv_refl d (SeqAt.canLay_of_shaped hs)]; exact q H3 (e2.trans e3)⟩
end
theorem shaped_pair (ns ms : List Int) : SeqAt.shaped (.tuple [.list (ns.map .int), .list (ms.map .int)]) = true := by
  unfold SeqAt.shaped
  have h1 := canLay_ints ns
  have h2 := depth_ints ns
  have h3 := canLay_ints ms
  have h4 := depth_ints ms
  rw [Bool.and_eq_true, decide_eq_true_iff]
  refine ⟨by simp only [PyData.canLay0, PyData.canLayAll0, h1, h3, Bool.and_self], ?_⟩
  simp only [PyData.depth, PyData.depthAll]
  omega

/-- what the top has left -/
structure TX (K : PySem.W.Frag) (mg : Str → Option Value) where
  a_MonochordError_init : Addr
  d_MonochordError_init : FuncData
  F_MonochordError_init : Fun K "__init__" "MonochordError.__init__" s_MonochordError_init a_MonochordError_init d_MonochordError_init
  b_MonochordError_init : Binds K d_MonochordError_init ["self", "place"] []
  a_big_number : Addr
  d_big_number : FuncData
  F_big_number : Fun K "big_number" "big_number" s_big_number a_big_number d_big_number
  b_big_number : Binds K d_big_number ["data", "place", "count"] []
  g_big_number : mg "big_number" = some (.ref a_big_number)
  a_read_seektable : Addr
  d_read_seektable : FuncData
  F_read_seektable : Fun K "read_seektable" "read_seektable" s_read_seektable a_read_seektable d_read_seektable
  b_read_seektable : Binds K d_read_seektable ["data", "start", "stop"] []
  g_read_seektable : mg "read_seektable" = some (.ref a_read_seektable)
  a_read_point : Addr
  d_read_point : FuncData
  F_read_point : Fun K "_read_point" "_read_point" s_read_point a_read_point d_read_point
  b_read_point : Binds K d_read_point ["data", "place"] []
  g_read_point : mg "_read_point" = some (.ref a_read_point)
  a_may_follow : Addr
  d_may_follow : FuncData
  F_may_follow : Fun K "_may_follow" "_may_follow" s_may_follow a_may_follow d_may_follow
  b_may_follow : Binds K d_may_follow ["before", "point"] []
  g_may_follow : mg "_may_follow" = some (.ref a_may_follow)
  a_law_is_integer : Addr
  d_law_is_integer : FuncData
  F_law_is_integer : Fun K "_law_is_integer" "_law_is_integer" s_law_is_integer a_law_is_integer d_law_is_integer
  b_law_is_integer : Binds K d_law_is_integer ["actual"] []
  g_law_is_integer : mg "_law_is_integer" = some (.ref a_law_is_integer)
  a_law_refill : Addr
  d_law_refill : FuncData
  F_law_refill : Fun K "_law_refill" "_law_refill" s_law_refill a_law_refill d_law_refill
  b_law_refill : Binds K d_law_refill ["script", "k"] []
  g_law_refill : mg "_law_refill" = some (.ref a_law_refill)
  a_law_draw : Addr
  d_law_draw : FuncData
  F_law_draw : Fun K "_law_draw" "_law_draw" s_law_draw a_law_draw d_law_draw
  b_law_draw : Binds K d_law_draw ["state", "script", "size"] []
  g_law_draw : mg "_law_draw" = some (.ref a_law_draw)
  a_law_wide : Addr
  d_law_wide : FuncData
  F_law_wide : Fun K "_law_wide" "_law_wide" s_law_wide a_law_wide d_law_wide
  b_law_wide : Binds K d_law_wide ["state", "script", "size"] []
  g_law_wide : mg "_law_wide" = some (.ref a_law_wide)
  a_law_junk : Addr
  d_law_junk : FuncData
  F_law_junk : Fun K "_law_junk" "_law_junk" s_law_junk a_law_junk d_law_junk
  b_law_junk : Binds K d_law_junk ["state", "script", "count"] []
  g_law_junk : mg "_law_junk" = some (.ref a_law_junk)
  a_law_number_bytes : Addr
  d_law_number_bytes : FuncData
  F_law_number_bytes : Fun K "_law_number_bytes" "_law_number_bytes" s_law_number_bytes a_law_number_bytes d_law_number_bytes
  b_law_number_bytes : Binds K d_law_number_bytes ["number", "count"] []
  g_law_number_bytes : mg "_law_number_bytes" = some (.ref a_law_number_bytes)
  a_law_row : Addr
  d_law_row : FuncData
  F_law_row : Fun K "_law_row" "_law_row" s_law_row a_law_row d_law_row
  b_law_row : Binds K d_law_row ["state", "script", "before"] []
  g_law_row : mg "_law_row" = some (.ref a_law_row)
  a_law_expected : Addr
  d_law_expected : FuncData
  F_law_expected : Fun K "_law_expected" "_law_expected" s_law_expected a_law_expected d_law_expected
  b_law_expected : Binds K d_law_expected ["rows", "extra", "start"] []
  g_law_expected : mg "_law_expected" = some (.ref a_law_expected)
  a_law_outcome : Addr
  d_law_outcome : FuncData
  F_law_outcome : Fun K "_law_outcome" "_law_outcome" s_law_outcome a_law_outcome d_law_outcome
  b_law_outcome : Binds K d_law_outcome ["data", "start", "stop"] []
  g_law_outcome : mg "_law_outcome" = some (.ref a_law_outcome)
  a_law : Addr
  d_law : FuncData
  F_law : Fun K "law" "law" s_law a_law d_law
  b_law : Binds K d_law ["script"] []
  g_law : mg "law" = some (.ref a_law)
  C_MonochordError : Addr
  g_MonochordError : mg "MonochordError" = some (.ref C_MonochordError)
  x_MonochordError : ExK K C_MonochordError a_MonochordError_init "MonochordError"
  C_InvalidForm : Addr
  g_InvalidForm : mg "InvalidForm" = some (.ref C_InvalidForm)
  x_InvalidForm : ExK K C_InvalidForm a_MonochordError_init "InvalidForm"
  C_OutOfOrder : Addr
  g_OutOfOrder : mg "OutOfOrder" = some (.ref C_OutOfOrder)
  x_OutOfOrder : ExK K C_OutOfOrder a_MonochordError_init "OutOfOrder"
  ti_MonochordError_init : PySem.W.typeIn K (.ref a_MonochordError_init) = some (.type "function")
  sv_MonochordError : PySem.W.subIn K (.ref C_MonochordError) (.type "ValueError") = some true
  su_MonochordError_MonochordError : PySem.W.subIn K (.ref C_MonochordError) (.ref C_MonochordError) = some true
  su_MonochordError_InvalidForm : PySem.W.subIn K (.ref C_MonochordError) (.ref C_InvalidForm) = some false
  su_MonochordError_OutOfOrder : PySem.W.subIn K (.ref C_MonochordError) (.ref C_OutOfOrder) = some false
  sv_InvalidForm : PySem.W.subIn K (.ref C_InvalidForm) (.type "ValueError") = some true
  su_InvalidForm_MonochordError : PySem.W.subIn K (.ref C_InvalidForm) (.ref C_MonochordError) = some true
  su_InvalidForm_InvalidForm : PySem.W.subIn K (.ref C_InvalidForm) (.ref C_InvalidForm) = some true
  su_InvalidForm_OutOfOrder : PySem.W.subIn K (.ref C_InvalidForm) (.ref C_OutOfOrder) = some false
  sv_OutOfOrder : PySem.W.subIn K (.ref C_OutOfOrder) (.type "ValueError") = some true
  su_OutOfOrder_MonochordError : PySem.W.subIn K (.ref C_OutOfOrder) (.ref C_MonochordError) = some true
  su_OutOfOrder_InvalidForm : PySem.W.subIn K (.ref C_OutOfOrder) (.ref C_InvalidForm) = some false
  su_OutOfOrder_OutOfOrder : PySem.W.subIn K (.ref C_OutOfOrder) (.ref C_OutOfOrder) = some true
  m_range : mg "range" = none
  m_len : mg "len" = none
  m_isinstance : mg "isinstance" = none
  m_int : mg "int" = none
  m_bool : mg "bool" = none
  m_min : mg "min" = none
  m_ValueError : mg "ValueError" = none
  u_POINT_LENGTH : Value
  c_POINT_LENGTH : mg "_POINT_LENGTH" = some u_POINT_LENGTH
  r_POINT_LENGTH : RelV (.int (18)) u_POINT_LENGTH
  u_NO_SAMPLE : Value
  c_NO_SAMPLE : mg "_NO_SAMPLE" = some u_NO_SAMPLE
  r_NO_SAMPLE : RelV (.int (18446744073709551615)) u_NO_SAMPLE
section
variable {P : Program} {w : World} {K : PySem.W.Frag} {mg : Str → Option Value} {base : Heap}
/-! ### int(x), bits of a number -/
theorem Ev.is {σ : L2.St} {H : Hp} {te : TE} {x y : V} (h : Ev te σ H x) (e : x = y) : Ev te σ H y := e ▸ h
theorem ev_int1 {σ : L2.St} {H : Hp} {te : TE} {i : Int} (h : Ev te σ H (.int i)) : Ev (tCB (fun xs H Q => (∃ i, xs = [V.int i] ∧ Q (V.int i) H) ∨ ∃ k, xs = [V.bl k] ∧ Q (V.int (if k = true then 1 else 0)) H) (tCons te tNil)) σ H (.int i) :=
  ev_cb (ea_cons h ea_nil) fun H1 _ Q q => .inl ⟨i, rfl, q H1 (Ex.refl H1)⟩
theorem q_augR {σ : L2.St} {H : Hp} {te : TE} {D : Ends} {tz : TS} {i : Nat} {g : Int → Int → V} {a b : Int} (h1 : σ[i]? = some (some (.int a))) (h : Ev te σ H (.int b)) (k : ∀ H1, Ex H H1 → tz D (σ.set i (some (g a b))) H1) : tSeq (tAug i te (rI0 g)) tz D σ H :=
  ⟨_, h1, h H (Ex.refl H) _ fun H1 e => ⟨a, b, rfl, rfl, k H1 e⟩⟩
theorem s_augR {σ : L2.St} {H : Hp} {te : TE} {D : Ends} {i : Nat} {g : Int → Int → V} {a b : Int} (h1 : σ[i]? = some (some (.int a))) (h : Ev te σ H (.int b)) (k : ∀ H1, Ex H H1 → D.nx (σ.set i (some (g a b))) H1) : tAug i te (rI0 g) D σ H :=
  ⟨_, h1, h H (Ex.refl H) _ fun H1 e => ⟨a, b, rfl, rfl, k H1 e⟩⟩
theorem ev_atT {K : PySem.W.Frag} {σ : L2.St} {H : Hp} {tl ti : TE} {t : Addr} {xs : List V} {n : Int} {v : V} (h : Ev tl σ H (.ref t)) (hT : SqT K H t xs) (hi : Ev ti σ H (.int n)) (ha : atI xs n = some v) : Ev (tOp (rIxT K) tl ti) σ H v := fun H1 e Q q =>
  h H1 e _ fun H2 e2 => hi H2 (e.trans e2) _ fun H3 e3 => ⟨t, xs, n, v, rfl, rfl, ex_t ((e.trans e2).trans e3) hT, ha, q H3 (e2.trans e3)⟩
local macro_rules | `(tactic| walk_at "side") => `(tactic| first
  | omega
  | (show CDivW _ _; exact ⟨by omega, by decide⟩)
  | (show CDivW _ _; exact wide_div (b := 80) (by omega) (by omega) (by decide) (by decide)))
local macro_rules | `(tactic| walk_at "evown") => `(tactic| (refine' ev_int1 ?h1; (case h1 => walk_at "ev")))
/-- numbers from 0 on, as such -/
def cs (ds : List Nat) : List Int := ds.map fun d : Nat => (d : Int)
theorem cs_of {ns : List Int} {b : Int} (h : ∀ n ∈ ns, 0 ≤ n ∧ n < b) : ∃ ds : List Nat, ns = cs ds ∧ ds.length = ns.length ∧ ∀ d ∈ ds, (d : Int) < b := by
  refine ⟨ns.map Int.toNat, ?_, List.length_map .., fun d hd => ?_⟩
  · unfold cs
    rw [List.map_map]
    conv => lhs; rw [← List.map_id ns]
    refine List.map_congr_left fun n hn => ?_
    have := (h n hn).1
    show n = ((n.toNat : Nat) : Int)
    omega
  · obtain ⟨n, hn, rfl⟩ := List.mem_map.mp hd
    have := h n hn
    omega
theorem cs_len (ds : List Nat) : (cs ds).length = ds.length := List.length_map ..
theorem cs_at {ds : List Nat} {i : Nat} {d : Nat} (h : ds[i]? = some d) : (cs ds)[i]? = some (d : Int) := by unfold cs; rw [List.getElem?_map, h]; rfl
theorem cs_take (ds : List Nat) (i : Nat) : (cs ds).take i = cs (ds.take i) := by unfold cs; rw [List.map_take]
theorem cs_drop (ds : List Nat) (i : Nat) : (cs ds).drop i = cs (ds.drop i) := by unfold cs; rw [List.map_drop]
theorem cs_append (ds es : List Nat) : cs (ds ++ es) = cs ds ++ cs es := List.map_append ..

theorem ev_all {σ : L2.St} {H : Hp} {te : TE} {bs : List Bool} {b : Bool} (h : EvS K te σ H (bs.map V.bl)) (hb : bs.all id = b) : Ev (tCB (rAll K) (tCons te tNil)) σ H (.bl b) := fun H1 e Q q => h H1 e _ fun p H2 e2 hp => ⟨p, bs, rfl, hp, by rw [hb]; exact q H2 e2⟩

/-! ### own errors, made and looked at -/
theorem kitOne_ref {D C : Addr} {b : Bool} {fI : Addr} {nm : Str} (x : ExK K C fI nm) (h : PySem.W.subIn K (.ref D) (.ref C) = some b) (hD : PySem.W.subIn K (.ref D) (.ref D) = some true) : PySem.W.kitOne K (.ref D) (.ref C) = some b := by
  unfold PySem.W.kitOne
  by_cases e : D = C
  · subst e
    rw [hD] at h
    rw [if_pos (beq_self_eq_true _), ← h]
  · rw [if_neg (fun z => e (Value.ref.inj (beq_iff_eq.mp z)))]
    obtain ⟨cd, hc, _⟩ := PySem.W.any_some x.ex.hd
    show (if ((PySem.W.clsIn K C).isSome && PySem.W.typeIn K (.ref C) == some (.type "type")) = true then PySem.W.subIn K (.ref D) (.ref C) else none) = some b
    rw [if_pos (by rw [hc, x.tyC] <;> rfl), h]
theorem kitOne_VE {D : Addr} (h : PySem.W.subIn K (.ref D) (.type "ValueError") = some true) : PySem.W.kitOne K (.ref D) (.type "ValueError") = some true := by
  unfold PySem.W.kitOne
  rw [if_neg (fun z => by cases beq_iff_eq.mp z)]
  show (if PySem.W.kitMeta "ValueError" = true then PySem.W.subIn K (.ref D) (.type "ValueError") else none) = some true
  rw [if_pos (by decide +kernel), h]
theorem exm_su {D C : Addr} {b : Bool} {fI : Addr} {nm : Str} (x : ExK K C fI nm) (h : PySem.W.subIn K (.ref D) (.ref C) = some b) : PySem.W.exmOne K (.ref D) (.ref C) = some b := PySem.W.exm_ref x.ex.hs x.ex.hd x.tyC h
theorem ok_MonochordError_init (T : TX K mg) : FnOk P w K mg base CX0 1 T.a_MonochordError_init T.d_MonochordError_init ["self", "place"] (sp_einit K) := by
  refine T.F_MonochordError_init.ok sc_MonochordError_init (fun vs H Q E h => by obtain ⟨a, C, fI, nm, n, rfl, _⟩ := h; rfl) (fun cdv A outer s H vs Q E hr h => ?_)
  obtain ⟨a, C, fI, nm, n, rfl, T1, ha, k⟩ := h
  refine ⟨_, (pss_cons (ps_ost (pv 0) (pv 1))
      (pss_one (ps_ost (pv 0) (pe_clsname (pv 0))))), ?_⟩
  refine ⟨.int n, rfl, .ref a, rfl, a, C, rfl, T1.ox, T1.nP, .inl ⟨ha, fun dx hdx ne => ?_⟩⟩
  have h2 : upd (upd H dx (exd dx [("place", .int n)])) a (exo a C (some dx)) dx = some (exd dx [("place", .int n)]) := by rw [upd_ne ne]; exact upd_same
  refine ⟨.ref a, rfl, a, C, dx, [("place", .int n)], fI, nm, rfl, T1, upd_same, h2, .ref a, rfl, a, C, rfl, T1.ox, T1.nN, .inr ⟨dx, [("place", .int n)], upd_same, h2, Nat.le_of_ble_eq_true rfl, ?_⟩⟩
  refine k dx _ hdx ne (fun b o nb hb => ?_) ?_ upd_same
  · have nd : b ≠ dx := fun z => by rw [z, hdx] at hb; cases hb
    rw [upd_ne nd, upd_ne nb, upd_ne nd]
    exact hb
  · rw [upd_ne ne.symm]
    exact upd_same
/-- isinstance(error, c), error.f in the suite that holds it -/
theorem ev_isA {σ : L2.St} {H : Hp} {te : TE} {a C C2 dd : Addr} {cls : Value} {d : Option Addr} {fs : List (Str × V)} {b : Bool} (ha : Ev te σ H (.ref a)) (hc : cls = .ref C) (T : ExcC K C) (hd : d = some dd) (hx : H dd = some (.xd fs)) (hk : PySem.W.kitOne K (.ref C) (.ref C2) = some b) :
    Ev (tCB (rIsA K cls d a) (tCons te (tCons (tC (.ref C2)) tNil))) σ H (.bl b) := fun H1 e Q q =>
  ha H1 e _ fun H2 e2 => ⟨C, .ref C2, .ref C2, b, dd, fs, hc, T, hd, (e.trans e2) _ _ hx, rfl, fun u r => r, hk, q H2 e2⟩
theorem ev_isVE {σ : L2.St} {H : Hp} {te : TE} {a C dd : Addr} {cls : Value} {d : Option Addr} {fs : List (Str × V)} {b : Bool} (ha : Ev te σ H (.ref a)) (hc : cls = .ref C) (T : ExcC K C) (hd : d = some dd) (hx : H dd = some (.xd fs)) (hk : PySem.W.kitOne K (.ref C) (.type "ValueError") = some b) :
    Ev (tCB (rIsA K cls d a) (tCons te (tCons (tC (.ty "ValueError")) tNil))) σ H (.bl b) := fun H1 e Q q =>
  ha H1 e _ fun H2 e2 => ⟨C, .ty "ValueError", .type "ValueError", b, dd, fs, hc, T, hd, (e.trans e2) _ _ hx, rfl, fun u r => r, hk, q H2 e2⟩
theorem ev_xfA {σ : L2.St} {H : Hp} {te : TE} {a C dd : Addr} {cls : Value} {d : Option Addr} {f : Str} {fs : List (Str × V)} {v : V} (ha : Ev te σ H (.ref a)) (hc : cls = .ref C) (T : XfC K C) (hn : PySem.W.findIn K (.ref C) f = some none) (hd : d = some dd) (hx : H dd = some (.xd fs)) (hl : fs.lookup f = some v) :
    Ev (tXfA K a cls d f te) σ H v := fun H1 e Q q => ha H1 e _ fun H2 e2 => ⟨rfl, C, hc, T, hn, dd, fs, v, hd, (e.trans e2) _ _ hx, hl, q H2 e2⟩
/-! o.m(..) that may let an error out -/
section
variable {σ : L2.St} {H : Hp} {to : TE} {a C dx : Addr} {fs : List (Str × V)} {m : Str} {D : Ends} {tz : TS} {sp : Sp} {dvs vs : List V} {E : L2.St → XK} {t : TA} {v : V}
theorem mthX (h : Ev to σ H (.ref a)) (hx : H a = some (.ins C dx fs)) (hm : fs.lookup m = none) (ha : EvA t σ H vs) {Q : VK} (k : ∀ H1, Ex H H1 → sp (.ref a :: (vs ++ dvs)) H1 Q (E σ)) : tMethX C m sp dvs E to t σ H Q :=
  h H (Ex.refl H) _ fun H1 e1 => ⟨a, dx, fs, rfl, e1 _ _ hx, hm, ha H1 e1 _ fun H2 e2 => k H2 (e1.trans e2)⟩
theorem q_asgMX {i : Nat} (h : Ev to σ H (.ref a)) (hx : H a = some (.ins C dx fs)) (hm : fs.lookup m = none) (ha : EvA t σ H vs) (k : ∀ H1, Ex H H1 → sp (.ref a :: (vs ++ dvs)) H1 (fun x H2 => tz D (σ.set i (some x)) H2) (E σ)) : tSeq (tAsg (tMethX C m sp dvs E to t) (gName i)) tz D σ H := mthX h hx hm ha k
theorem s_retMX (h : Ev to σ H (.ref a)) (hx : H a = some (.ins C dx fs)) (hm : fs.lookup m = none) (ha : EvA t σ H vs) (k : ∀ H1, Ex H H1 → sp (.ref a :: (vs ++ dvs)) H1 D.rt (E σ)) : tRet (tMethX C m sp dvs E to t) D σ H := mthX h hx hm ha k
theorem q_asgCX {i : Nat} (h : EvA t σ H vs) (k : ∀ H1, Ex H H1 → sp (vs ++ dvs) H1 (fun x H2 => tz D (σ.set i (some x)) H2) (E σ)) : tSeq (tAsg (tCallX sp dvs E t) (gName i)) tz D σ H := h H (Ex.refl H) _ fun H1 e => k H1 e
theorem s_retCX (h : EvA t σ H vs) (k : ∀ H1, Ex H H1 → sp (vs ++ dvs) H1 D.rt (E σ)) : tRet (tCallX sp dvs E t) D σ H := h H (Ex.refl H) _ fun H1 e => k H1 e
end

/-! ### from what is evaluated to what follows -/
theorem ev_go {te : TE} {σ : L2.St} {H : Hp} {v : V} {Q : VK} (h : Ev te σ H v) (k : ∀ H2, Ex H H2 → Q v H2) : te σ H Q := h H (Ex.refl H) Q k
theorem et_go {t : TT} {σ : L2.St} {H : Hp} {b : Bool} {Q : Bool → Hp → Prop} (h : EvT t σ H b) (k : ∀ H2, Ex H H2 → Q b H2) : t σ H Q := h H (Ex.refl H) Q k
theorem el_go {te : TE} {σ : L2.St} {H : Hp} {xs : List V} {Q : VK} (h : EvL te σ H xs) (k : ∀ p H2, H p = none → Ex H H2 → H2 p = some (.lst xs) → Q (.ref p) H2) : te σ H Q := h H (Ex.refl H) Q k
theorem eu_go {te : TE} {σ : L2.St} {H : Hp} {xs : List V} {Q : VK} (h : EvU te σ H xs) (k : ∀ p H2, H p = none → Ex H H2 → H2 p = some (.tup xs) → Q (.ref p) H2) : te σ H Q := h H (Ex.refl H) Q k
theorem ea_go {t : TA} {σ : L2.St} {H : Hp} {vs : List V} {Q : List V → Hp → Prop} (h : EvA t σ H vs) (k : ∀ H2, Ex H H2 → Q vs H2) : t σ H Q := h H (Ex.refl H) Q k
/-! ### the law's state, a list of two numbers, which draws change -/
theorem et_tru {σ : L2.St} {H : Hp} {te : TE} {a : Addr} {xs : List V} (h : Ev te σ H (.ref a)) (hs : SqL K H a xs) : EvT (fun σ H Q => te σ H fun x H' => ∃ k, TruV K x H' k ∧ Q k H') σ H (!xs.isEmpty) := fun H1 e Q q => h H1 e _ fun H2 e2 => ⟨_, .inl ⟨xs, ex_l (e.trans e2) hs, rfl⟩, q H2 e2⟩
def StAt (H : Hp) (s : Addr) : Prop := ∃ k c : Int, H s = some (.lst [.int k, .int c])
def Fr (s : Addr) (H H' : Hp) : Prop := (∀ b o, b ≠ s → H b = some o → H' b = some o) ∧ StAt H' s
theorem Fr.refl {s : Addr} {H : Hp} (st : StAt H s) : Fr s H H := ⟨fun _ _ _ h => h, st⟩
theorem Fr.ex {s : Addr} {H H' : Hp} (st : StAt H s) (e : Ex H H') : Fr s H H' := ⟨fun b o _ h => e b o h, by obtain ⟨k, c, h⟩ := st; exact ⟨k, c, e _ _ h⟩⟩
theorem Fr.trans {s : Addr} {H H1 H2 : Hp} (h : Fr s H H1) (g : Fr s H1 H2) : Fr s H H2 := ⟨fun b o n e => g.1 b o n (h.1 b o n e), g.2⟩
theorem Fr.tex {s : Addr} {H H1 H2 : Hp} (h : Fr s H H1) (e : Ex H1 H2) : Fr s H H2 := h.trans (Fr.ex h.2 e)
theorem Fr.fresh {s p : Addr} {H H' : Hp} (h : Fr s H H') (hp : H' p = none) : H p = none := by
  have hs : p ≠ s := by
    rintro rfl
    obtain ⟨k, c, g⟩ := h.2
    rw [g] at hp
    cases hp
  cases e : H p with
  | none => rfl
  | some o =>
    have := h.1 p o hs e
    rw [this] at hp
    cases hp
theorem ne_st {s p : Addr} {H : Hp} (st : StAt H s) (hp : H p = none) : p ≠ s := by
  rintro rfl
  obtain ⟨k, c, g⟩ := st
  rw [g] at hp
  cases hp
theorem Fr.mut {s p : Addr} {H H1 : Hp} {o : HO} (h : Fr s H H1) (hp : H p = none) (hs : p ≠ s) : Fr s H (upd H1 p o) := ⟨fun b u n e => by rw [upd_ne (ne_of_none e hp)]; exact h.1 b u n e, by obtain ⟨k, c, g⟩ := h.2; exact ⟨k, c, by rw [upd_ne (Ne.symm hs)]; exact g⟩⟩
theorem Fr.l {s a : Addr} {H H' : Hp} {xs : List V} (h : Fr s H H') (hs : a ≠ s) (q : H a = some (.lst xs)) : H' a = some (.lst xs) := h.1 a _ hs q
/-- a list, seen through all draws -/
def Scr (K : PySem.W.Frag) (s a : Addr) (H : Hp) (xs : List V) : Prop := ∀ H', Fr s H H' → SqL K H' a xs
theorem scr_mk {s a : Addr} {H H1 : Hp} {xs : List V} (hs : H s = none) (e : Ex H H1) (q : SqL K H a xs) : Scr K s a H1 xs := fun H' fr => by
  rcases q with q | q
  · rcases q with q | ⟨o, q⟩
    · exact .inl (.inl (fr.1 _ _ (ne_of_none q hs) (e _ _ q)))
    · exact .inl (.inr ⟨o, fr.1 _ _ (ne_of_none q hs) (e _ _ q)⟩)
  · exact .inr q
def DrS (K : PySem.W.Frag) (H : Hp) (s a : Addr) (ns : List Int) : Prop := StAt H s ∧ Scr K s a H (ns.map V.int)
theorem DrS.fr {H H' : Hp} {s a : Addr} {ns : List Int} (h : DrS K H s a ns) (f : Fr s H H') : DrS K H' s a ns := ⟨f.2, fun H2 g => h.2 H2 (f.trans g)⟩
theorem DrS.ex {H H' : Hp} {s a : Addr} {ns : List Int} (h : DrS K H s a ns) (e : Ex H H') : DrS K H' s a ns := h.fr (Fr.ex h.1 e)
theorem DrS.sq {H : Hp} {s a : Addr} {ns : List Int} (h : DrS K H s a ns) : SqL K H a (ns.map V.int) := h.2 H (Fr.refl h.1)
/-! numbers, tests that draw on the way -/
def EvI (s : Addr) (te : TE) (σ : L2.St) (H : Hp) (p : Int → Prop) : Prop := ∀ Q : VK, (∀ i H2, Fr s H H2 → p i → Q (.int i) H2) → te σ H Q
def EvTW (s : Addr) (t : TT) (σ : L2.St) (H : Hp) (p : Bool → Prop) : Prop := ∀ Q : Bool → Hp → Prop, (∀ b H2, Fr s H H2 → p b → Q b H2) → t σ H Q
section
variable {s : Addr} {σ : L2.St} {H : Hp} {ta tb te : TE} {p q : Int → Prop}
theorem wi_ev {i : Int} (st : StAt H s) (h : Ev te σ H (.int i)) : EvI s te σ H (fun z => z = i) := fun Q q => h H (Ex.refl H) _ fun H2 e2 => q i H2 (Fr.ex st e2) rfl
theorem wi_imp {p q : Int → Prop} (h : EvI s te σ H p) (hi : ∀ z, p z → q z) : EvI s te σ H q := fun Q k => h Q fun i H2 f hp => k i H2 f (hi i hp)
theorem wi_op {g : Int → Int → Int} (ha : EvI s ta σ H p) (hb : ∀ H1, Fr s H H1 → EvI s tb σ H1 q) : EvI s (tOp (rI0 fun i j => .int (g i j)) ta tb) σ H (fun z => ∃ i j, p i ∧ q j ∧ z = g i j) := fun Q k =>
  ha _ fun i H1 f1 hp => hb H1 f1 _ fun j H2 f2 hq => ⟨i, j, rfl, rfl, k _ H2 (f1.trans f2) ⟨i, j, hp, hq, rfl⟩⟩
theorem wi_opC {C : Int → Int → Prop} {g : Int → Int → Int} (ha : EvI s ta σ H p) (hb : ∀ H1, Fr s H H1 → EvI s tb σ H1 q) (hc : ∀ i j, p i → q j → C i j) : EvI s (tOp (rI C fun i j => .int (g i j)) ta tb) σ H (fun z => ∃ i j, p i ∧ q j ∧ z = g i j) := fun Q k =>
  ha _ fun i H1 f1 hp => hb H1 f1 _ fun j H2 f2 hq => ⟨i, j, rfl, rfl, hc i j hp hq, k _ H2 (f1.trans f2) ⟨i, j, hp, hq, rfl⟩⟩
theorem wt_cmp {g : Int → Int → Bool} (ha : EvI s ta σ H p) (hb : ∀ H1, Fr s H H1 → EvI s tb σ H1 q) : EvTW s (tTest (tOp (rI0 fun i j => .bl (g i j)) ta tb)) σ H (fun b => ∃ i j, p i ∧ q j ∧ b = g i j) := fun Q k =>
  ha _ fun i H1 f1 hp => hb H1 f1 _ fun j H2 f2 hq => ⟨i, j, rfl, rfl, g i j, rfl, k _ H2 (f1.trans f2) ⟨i, j, hp, hq, rfl⟩⟩
theorem wt_eq (ha : EvI s ta σ H p) (hb : ∀ H1, Fr s H H1 → EvI s tb σ H1 q) : EvTW s (tTest (tOp rEq ta tb)) σ H (fun b => ∃ i j, p i ∧ q j ∧ b = decide (i = j)) := fun Q k =>
  ha _ fun i H1 f1 hp => hb H1 f1 _ fun j H2 f2 hq => ⟨rfl, decide (V.int i = V.int j), rfl, k _ H2 (f1.trans f2) ⟨i, j, hp, hq, by simp⟩⟩
theorem wt_ev {t : TT} {b : Bool} (st : StAt H s) (h : EvT t σ H b) : EvTW s t σ H (fun z => z = b) := fun Q q => h H (Ex.refl H) _ fun H2 e2 => q b H2 (Fr.ex st e2) rfl
theorem wt_and {t u : TT} {p q : Bool → Prop} (h1 : EvTW s t σ H p) (h2 : ∀ H1, Fr s H H1 → p true → EvTW s u σ H1 q) : EvTW s (tAnd t u) σ H (fun b => (p false ∧ b = false) ∨ (p true ∧ q b)) := fun Q k => h1 _ fun b H1 f1 hb => by
  cases b with
  | true => exact h2 H1 f1 hb _ fun c H2 f2 hc => k c H2 (f1.trans f2) (.inr ⟨hb, hc⟩)
  | false => exact k false H1 f1 (.inl ⟨hb, rfl⟩)
theorem wt_not {t : TT} {p : Bool → Prop} (h1 : EvTW s t σ H p) : EvTW s (tNot t) σ H (fun b => p (!b)) := fun Q k => h1 _ fun b H1 f1 hb => k (!b) H1 f1 (by show p (!!b); rw [Bool.not_not]; exact hb)
variable {D : Ends} {tz tu : TS}
theorem qw_asg {j : Nat} (h : EvI s te σ H p) (k : ∀ i H1, Fr s H H1 → p i → tz D (σ.set j (some (.int i))) H1) : tSeq (tAsg te (gName j)) tz D σ H := h _ k
theorem sw_asg {j : Nat} (h : EvI s te σ H p) (k : ∀ i H1, Fr s H H1 → p i → D.nx (σ.set j (some (.int i))) H1) : tAsg te (gName j) D σ H := h _ k
theorem sw_ret (h : EvI s te σ H p) (k : ∀ i H1, Fr s H H1 → p i → D.rt (.int i) H1) : tRet te D σ H := h _ k
theorem qw_when {t : TT} {p : Bool → Prop} (h : EvTW s t σ H p) (h1 : p true → ∀ H1, Fr s H H1 → tu { D with nx := tz D } σ H1) (h2 : p false → ∀ H1, Fr s H H1 → tz D σ H1) : tSeq (tIfS t tu tNext) tz D σ H := h _ fun b H1 f hb => by
  cases b with
  | true => exact h1 hb H1 f
  | false => exact h2 hb H1 f
theorem sw_when {t : TT} {p : Bool → Prop} (h : EvTW s t σ H p) (h1 : p true → ∀ H1, Fr s H H1 → tu D σ H1) (h2 : p false → ∀ H1, Fr s H H1 → D.nx σ H1) : tIfS t tu tNext D σ H := h _ fun b H1 f hb => by
  cases b with
  | true => exact h1 hb H1 f
  | false => exact h2 hb H1 f
theorem sw_if {t : TT} {tw : TS} {p : Bool → Prop} (h : EvTW s t σ H p) (h1 : p true → ∀ H1, Fr s H H1 → tu D σ H1) (h2 : p false → ∀ H1, Fr s H H1 → tw D σ H1) : tIfS t tu tw D σ H := h _ fun b H1 f hb => by
  cases b with
  | true => exact h1 hb H1 f
  | false => exact h2 hb H1 f
theorem qw_forR1 {j : Nat} (h : EvI s te σ H p) (hp : ∀ i, p i → 0 ≤ i ∧ i ≤ 100000) (Pv : Int → Nat → L2.St → Hp → Prop) (h0 : ∀ n H1, p n → Fr s H H1 → Pv n 0 σ H1)
    (hs : ∀ n (i : Nat) σ' H', p n → (i : Int) < n → Pv n i σ' H' → tu { D with nx := Pv n (i + 1), ct := Pv n (i + 1), bk := tz D } (σ'.set j (some (.int (i : Int)))) H') (hd : ∀ n σ' H', p n → Pv n n.toNat σ' H' → tz D σ' H') : tSeq (tFor (iRng1 (tCons te tNil)) (gName j) tu) tz D σ H :=
  h _ fun n H1 f hn => ⟨n, rfl, by have := hp n hn; omega, by have := hp n hn; omega, for_range (D := { D with nx := tz D }) (lo := 0) (n := n.toNat) (Pv n) (h0 n H1 hn f) (fun i σ' H' hi q => by
    have e0 : (0 : Int) + (i : Int) = (i : Int) := Int.zero_add _
    show tu { D with nx := Pv n (i + 1), ct := Pv n (i + 1), bk := tz D } (σ'.set j (some (.int ((0 : Int) + (i : Int))))) H'
    rw [e0]
    exact hs n i σ' H' hn (by have := hp n hn; omega) q) fun σ' H' q => hd n σ' H' hn q⟩
end
/-- [e for j in range(n)] whose element draws -/
theorem tlc_rngW {ta : TA} {te : TE} {vs : List Nat} {n : Int} {j : Nat} {σ : L2.St} {H : Hp} {Q : VK} (h : EvA ta σ H [.int n]) (hn : -100000 ≤ n ∧ n ≤ 100000)
    (k : ∀ H1, Ex H H1 → ∀ Dl, H1 Dl = none → ∃ Pv : Nat → Hp → Prop, Pv 0 (upd H1 Dl (.lst [])) ∧ (∀ (i : Nat) H', i < n.toNat → Pv i H' → wipe ((wipe σ vs).set j (some (.int (i : Int)))) vs = wipe σ vs ∧ te ((wipe σ vs).set j (some (.int (i : Int)))) H' fun y H4 => ∃ acc, H4 Dl = some (.lst acc) ∧ acc.length < sizeLine ∧ Pv (i + 1) (upd H4 Dl (.lst (acc ++ [y])))) ∧ (∀ H', Pv n.toNat H' → Q (.ref Dl) H')) :
    tLc (iRng1 ta) (gName j) tYes te vs σ H Q := h H (Ex.refl H) _ fun H1 e1 => ⟨n, rfl, by omega, by omega, fun Dl hD => by
  obtain ⟨Pv, h0, hs, hd⟩ := k H1 e1 Dl hD
  refine lc_range (lo := 0) (n := n.toNat) Pv h0 (fun i H' hi p => ?_) hd
  rw [Int.zero_add]
  exact hs i H' hi p⟩
/-- xs[j] = e, e of a kind -/
theorem q_setLR {σ : L2.St} {H : Hp} {te ta tb : TE} {l : Addr} {xs : List V} {j : Nat} {D : Ends} {tz : TS} {P : V → Prop} (h : ∀ Q : VK, (∀ v H1, Ex H H1 → P v → Q v H1) → te σ H Q) (hl : H l = some (.lst xs)) (ho : ∀ H1, Ev ta σ H1 (.ref l)) (hi : ∀ H1, Ev tb σ H1 (.int (j : Int))) (hj : j < xs.length) (k : ∀ v H1, P v → Ex H H1 → tz D σ (upd H1 l (.lst (xs.set j v)))) : tSeq (tAsg te (gSub ta tb rSetL)) tz D σ H :=
  h _ fun v H1 e1 hv => ho H1 H1 (Ex.refl _) _ fun H2 e2 => hi H2 H2 (Ex.refl _) _ fun H3 e3 => ⟨l, xs, (j : Int), j, rfl, rfl, ((e1.trans e2).trans e3) l _ hl, ixN_nat hj, k v H3 hv ((e1.trans e2).trans e3)⟩
/-! ### the law's draws -/
def sp_isint : Sp := fun vs H Q _ => ∃ n : Int, vs = [.int n] ∧ RetV (.bl true) H Q
theorem ok_law_is_integer (T : TX K mg) : FnOk P w K mg base CX0 1 T.a_law_is_integer T.d_law_is_integer ["actual"] sp_isint := by
  refine T.F_law_is_integer.ok sc_law_is_integer (fun vs H Q E h => by obtain ⟨n, rfl, _⟩ := h; rfl) (fun cdv A outer s H vs Q E hr h => ?_)
  obtain ⟨n, rfl, k⟩ := h
  refine ⟨_, (pss_one (ps_ret (pe_and (pe_callB (r := rIsi K) call_isi (by rfl) T.m_isinstance PyProof.Rows.boot_isinstance (pa_cons (pv 0) (pa_cons (pe_bltn (v := V.ty "int") (by rfl) T.m_int PyProof.Rows.boot_int rfl) pa_nil))) (pe_one (pe_not (pe_callB (r := rIsi K) call_isi (by rfl) T.m_isinstance PyProof.Rows.boot_isinstance (pa_cons (pv 0) (pa_cons (pe_bltn (v := V.ty "bool") (by rfl) T.m_bool PyProof.Rows.boot_bool rfl) pa_nil)))))))), ?_⟩
  walk_at "ret"
  intro H2 e2
  exact ret_eq k e2 rfl
theorem ev_isint {σ : L2.St} {H : Hp} {te : TE} {E : XK} {n : Int} (h : Ev te σ H (.int n)) : Ev (tCall sp_isint [] E (tCons te tNil)) σ H (.bl true) := ev_call (ea_cons h ea_nil) fun H1 _ Q q _ => ⟨n, rfl, q⟩

def sp_refill (K : PySem.W.Frag) : Sp := fun vs H Q _ => ∃ (a : Addr) (ns : List Int) (k : Int), vs = [.ref a, .int k] ∧ SqL K H a (ns.map V.int) ∧ ∀ c : Int, RetV (.int c) H Q
theorem ok_law_refill (T : TX K mg) : FnOk P w K mg base CX0 1 T.a_law_refill T.d_law_refill ["script", "k"] (sp_refill K) := by
  refine T.F_law_refill.ok sc_law_refill (fun vs H Q E h => by obtain ⟨a, ns, k, rfl, _⟩ := h; rfl) (fun cdv A outer s0 H vs Q E hr h => ?_)
  obtain ⟨a, ns, k, rfl, hS, q⟩ := h
  refine ⟨_, (pss_cons (ps_set (i := 2) sc_law_refill.nd rfl (Or.inl rfl) pe_int)
      (pss_cons (ps_if (pt_truth (pv 0) (by intro _; rfl)) (pss_one (ps_set (i := 2) sc_law_refill.nd rfl (Or.inl rfl) (pe_ix (r := rIxL K) ix_list (pv 0) (pe_op op_mod (pv 1) (pe_callB (r := rLenS K) call_len_seq (by rfl) T.m_len PySem.boot_len (pa_cons (pv 0) pa_nil))) (fun _ _ => rfl)))) pss_nil)
      (pss_cons (ps_if (pt_cmpR op_lt (pv 2) pe_int (nomark _)) (pss_one (ps_set (i := 2) sc_law_refill.nd rfl (Or.inl rfl) (pe_op op_sub pe_int (pe_op op_mul pe_int (pv 2))))) pss_nil)
      (pss_cons (ps_if (PW.pt (pw_and (pt_cmpR op_ge (pv 2) (pe_op op_pow pe_int pe_int) (nomark _)) (pw_and1 (pt_cmpR op_lt (pv 1) (pe_callB (r := rLenS K) call_len_seq (by rfl) T.m_len PySem.boot_len (pa_cons (pv 0) pa_nil)) (nomark _))))) (pss_one (ps_ret (pv 2))) pss_nil)
      (pss_one (ps_ret (pe_op op_mod (pe_callTy call_int1 (by rfl) T.m_int PyProof.Rows.boot_int (pa_cons (pe_op op_add (pe_op op_mul (pe_callTy call_int1 (by rfl) T.m_int PyProof.Rows.boot_int (pa_cons (pe_op op_add (pe_op op_add (pe_op op_mul (pv 2) pe_int) (pe_op op_mul (pv 1) pe_int)) pe_int) pa_nil)) pe_int) pe_int) pa_nil)) pe_int))))))), ?_⟩
  refine q_asg ev_c fun H1 e1 => ?_
  have hl : (ns.map V.int).length = ns.length := List.length_map ..
  have rest : ∀ (c : Int) (H2 : Hp), Ex H H2 → tSeq (tIfS (tTest (tOp (rI0 fun i j => .bl (decide (i < j))) (tVar 2) (tC (.int 0)))) (tAsg (tOp (rI0 fun i j => .int (i - j)) (tC (.int 1)) (tOp (rI CMul fun i j => .int (i * j)) (tC (.int 2)) (tVar 2))) (gName 2)) tNext) (tSeq (tIfS (tAnd (tTest (tOp (rI0 fun i j => .bl (decide (j ≤ i))) (tVar 2) (tOp (rI CPow fun i j => .int (i ^ j.toNat)) (tC (.int 10)) (tC (.int 18))))) (tTest (tOp (rI0 fun i j => .bl (decide (i < j))) (tVar 1) (tCB (rLenS K) (tCons (tVar 0) tNil))))) (tRet (tVar 2)) tNext) (tRet (tOp (rI (fun _ j => 0 < j) fun i j => .int (i % j)) (tCB (fun xs H Q => (∃ i, xs = [V.int i] ∧ Q (V.int i) H) ∨ ∃ k, xs = [V.bl k] ∧ Q (V.int (if k = true then 1 else 0)) H) (tCons (tOp (rI0 fun i j => .int (i + j)) (tOp (rI CMul fun i j => .int (i * j)) (tCB (fun xs H Q => (∃ i, xs = [V.int i] ∧ Q (V.int i) H) ∨ ∃ k, xs = [V.bl k] ∧ Q (V.int (if k = true then 1 else 0)) H) (tCons (tOp (rI0 fun i j => .int (i + j)) (tOp (rI0 fun i j => .int (i + j)) (tOp (rI CMul fun i j => .int (i * j)) (tVar 2) (tC (.int 48271))) (tOp (rI CMul fun i j => .int (i * j)) (tVar 1) (tC (.int 69621)))) (tC (.int 12345))) tNil)) (tC (.int 40692))) (tC (.int 7))) tNil)) (tC (.int 2147483399))))) { nx := fun _ H' => Q .non H', rt := Q } [some (.ref a), some (.int k), some (.int c)] H2 := fun c H2 e2 => by
    obtain ⟨c1, hc1⟩ : ∃ c1 : Int, (if c < 0 then 1 - 2 * c else c) = c1 := ⟨_, rfl⟩
    refine q_ifAsg (b := decide (c < 0)) (v := .int c1) (et_test (ev_I0 (ev_var rfl) ev_c)) (fun h => Ev.is (ev_I0 ev_c (ev_I ev_c (ev_var rfl) (.inl (by decide)))) (congrArg V.int (by rw [← hc1, if_pos (of_decide_eq_true h)]))) (fun h => by rw [← hc1, if_neg (of_decide_eq_false h)]; rfl) fun H3 e3 => ?_
    refine q_when (et_and (et_test (ev_I0 (ev_var rfl) (ev_I ev_c ev_c ⟨by decide, by decide, by decide⟩))) fun _ => et_test (ev_I0 (ev_var rfl) (ev_lenS (Ev.s (ev_var rfl) (ex_l (e2.trans e3) hS))))) (fun _ H4 e4 => ?_) (fun _ H4 e4 => ?_)
    · exact s_ret (ev_var rfl) fun H5 e5 => (q _).go ((e2.trans e3).trans (e4.trans e5))
    · exact s_ret (ev_I (ev_int1 (ev_I0 (ev_I (ev_int1 (ev_I0 (ev_I0 (ev_I (ev_var rfl) ev_c (.inr (by decide))) (ev_I (ev_var rfl) ev_c (.inr (by decide)))) ev_c)) ev_c (.inr (by decide))) ev_c)) ev_c (by decide)) fun H5 e5 => (q _).go ((e2.trans e3).trans (e4.trans e5))
  refine q_when (et_tru (ev_var rfl) (ex_l e1 hS)) (fun hb H2 e2 => ?_) (fun _ H2 e2 => rest 0 H2 (e1.trans e2))
  have h0 : 0 < ns.length := by
    cases ns with
    | nil => cases hb
    | cons x r => rw [List.length_cons]; omega
  have h1 := Int.emod_nonneg k (show (ns.length : Int) ≠ 0 by omega)
  have h2 := Int.emod_lt_of_pos k (show (0 : Int) < ns.length by omega)
  refine s_asg (v := .int (ns.getD (k % (ns.length : Int)).toNat 0)) (ev_ixS (i := 0) (n := k % (ns.length : Int)) (Ev.s (ev_var rfl) (ex_l (e1.trans e2) hS)) (ev_I (ev_var rfl) (Ev.is (ev_lenS (Ev.s (ev_var rfl) (ex_l (e1.trans e2) hS))) (by rw [hl])) (by omega)) (at_of (j := (k % (ns.length : Int)).toNat) (by omega) (at_int (gl_get (by omega))))) fun H3 e3 => rest _ H3 (e1.trans (e2.trans e3))
def sp_draw (K : PySem.W.Frag) : Sp := fun vs H Q _ => ∃ (s a : Addr) (ns : List Int) (n : Int), vs = [.ref s, .ref a, .int n] ∧ DrS K H s a ns ∧ 0 < n ∧ n ≤ 2 ^ 80 ∧ ∀ (d : Nat) H', (d : Int) < n → Fr s H H' → Q (.int (d : Int)) H'
theorem ok_law_draw (T : TX K mg) : FnOk P w K mg base CX0 2 T.a_law_draw T.d_law_draw ["state", "script", "size"] (sp_draw K) := by
  refine T.F_law_draw.ok sc_law_draw (fun vs H Q E h => by obtain ⟨s, a, ns, n, rfl, _⟩ := h; rfl) (fun cdv A outer s0 H vs Q E hr h => ?_)
  obtain ⟨s, a, ns, n, rfl, hd, hn0, hn, k⟩ := h
  have hn' : n ≤ 1208925819614629174706176 := hn
  have hlog : n.natAbs.log2 < 9000 := by
    have : n.natAbs < 2 ^ 81 := by omega
    have := (Nat.log2_lt (n := n.natAbs) (k := 81) (by omega)).mpr this
    omega
  refine ⟨_, (pss_cut (ps_if (pt_cmpR op_eq (pe_ix (r := rIxL K) ix_list (pv 0) pe_int (fun _ _ => rfl)) pe_int (nomark _)) (pss_cons (ps_asg (pe_call (ok_law_refill T) (hr.mono (by decide)) (by rfl) T.g_law_refill T.F_law_refill.kp T.b_law_refill .nil pass0 (pa_cons (pv 1) (pa_cons (pe_ix (r := rIxL K) ix_list (pv 0) pe_int (fun _ _ => rfl)) pa_nil))) (pg_sub (pv 0) pe_int set_list))
        (pss_one (ps_asg (pe_op op_add (pe_ix (r := rIxL K) ix_list (pv 0) pe_int (fun _ _ => rfl)) pe_int) (pg_sub (pv 0) pe_int set_list)))) pss_nil)
      (pss_cons (ps_set (i := 3) sc_law_draw.nd rfl (Or.inl rfl) (pe_op op_mod (pe_callTy call_int1 (by rfl) T.m_int PyProof.Rows.boot_int (pa_cons (pe_ix (r := rIxL K) ix_list (pv 0) pe_int (fun _ _ => rfl)) pa_nil)) (pv 2)))
      (pss_cons (ps_asg (pe_op op_fdivW (pe_ix (r := rIxL K) ix_list (pv 0) pe_int (fun _ _ => rfl)) (pv 2)) (pg_sub (pv 0) pe_int set_list))
      (pss_one (ps_ret (pv 3)))))), ?_⟩
  refine q_cut (M := fun σ' H' => ∃ kk cc : Int, σ' = [some (.ref s), some (.ref a), some (.int n), none] ∧ (∀ b o, b ≠ s → H b = some o → H' b = some o) ∧ H' s = some (.lst [.int kk, .int cc])) ?_ ?_
  · obtain ⟨kk, cc, g⟩ := hd.1
    refine s_when (et_test (ev_eq (ev_ixS (i := 0) (n := 1) (Ev.s (ev_var rfl) (sq_of g)) ev_c (at_of (j := 1) rfl rfl)) ev_c rfl)) (fun _ H1 e1 => ?_) (fun _ H1 e1 => ⟨kk, cc, rfl, fun b o _ h => e1 b o h, e1 _ _ g⟩)
    have g1 := e1 _ _ g
    refine q_setLR (l := s) (xs := [.int kk, .int cc]) (j := 1) (P := fun v => ∃ c : Int, v = .int c) (fun Q' q' => (ea_cons (ev_var rfl) (ea_cons (ev_ixS (K := K) (i := 0) (n := 0) (v := .int kk) (xs := [.int kk, .int cc]) (Ev.s (ev_var rfl) (sq_of g1)) ev_c (at_of (j := 0) rfl rfl)) ea_nil)) H1 (Ex.refl _) _ fun H2 e2 => ⟨a, ns, kk, rfl, (hd.ex (e1.trans e2)).sq, fun c H3 e3 => q' _ _ (e2.trans e3) ⟨c, rfl⟩⟩) g1 (fun _ => ev_var rfl) (fun _ => ev_c) (Nat.le_of_ble_eq_true rfl) fun v H2 hv e2 => ?_
    obtain ⟨c, rfl⟩ := hv
    have u2 : (upd H2 s (.lst [V.int kk, V.int c])) s = some (.lst [V.int kk, V.int c]) := upd_same
    refine s_setL (l := s) (j := 0) (v := .int (kk + 1)) u2 (ev_I0 (ev_ixS (i := 0) (n := 0) (Ev.s (ev_var rfl) (sq_of u2)) ev_c (at_of (j := 0) rfl rfl)) ev_c) (ev_var rfl) ev_c (Nat.le_of_ble_eq_true rfl) fun H3 e3 => ⟨kk + 1, c, rfl, fun b o hb h => ?_, upd_same⟩
    rw [upd_ne hb]
    exact e3 _ _ (by rw [upd_ne hb]; exact e2 _ _ (e1 _ _ h))
  · rintro σ' H1 ⟨kk, cc, rfl, fr, g⟩
    have h0 := Int.emod_nonneg cc (show n ≠ 0 by omega)
    have h1 := Int.emod_lt_of_pos cc hn0
    obtain ⟨d, hd'⟩ : ∃ d : Nat, cc % n = (d : Int) := ⟨(cc % n).toNat, by omega⟩
    refine q_asg (v := .int (d : Int)) (Ev.is (ev_I (ev_int1 (ev_ixS (i := 0) (n := 1) (Ev.s (ev_var rfl) (sq_of g)) ev_c (at_of (j := 1) rfl rfl))) (ev_var rfl) hn0) (congrArg V.int hd')) fun H2 e2 => ?_
    refine q_setL (l := s) (j := 1) (v := .int (cc / n)) (e2 _ _ g) (ev_I (ev_ixS (i := 0) (n := 1) (Ev.s (ev_var rfl) (sq_of (e2 _ _ g))) ev_c (at_of (j := 1) rfl rfl)) (ev_var rfl) ⟨hn0, hlog⟩) (ev_var rfl) ev_c (Nat.le_of_ble_eq_true rfl) fun H3 e3 => ?_
    refine s_ret (v := .int (d : Int)) (ev_var rfl) fun H4 e4 => k d H4 (by omega) ⟨fun b o hb h => e4 _ _ (by rw [upd_ne hb]; exact e3 _ _ (e2 _ _ (fr b o hb h))), ⟨kk, cc / n, e4 _ _ upd_same⟩⟩
theorem wi_draw {s a : Addr} {ns : List Int} {σ : L2.St} {H : Hp} {tn : TE} {E : XK} {n : Int} {i j : Nat} (hd : DrS K H s a ns) (h1 : σ[i]? = some (some (.ref s))) (h2 : σ[j]? = some (some (.ref a))) (h3 : Ev tn σ H (.int n)) (h0 : 0 < n) (hn : n ≤ 2 ^ 80) :
    EvI s (tCall (sp_draw K) [] E (tCons (tVar i) (tCons (tVar j) (tCons tn tNil)))) σ H (fun z => ∃ d : Nat, z = (d : Int) ∧ (d : Int) < n) := fun Q q =>
  (ea_cons (ev_var h1) (ea_cons (ev_var h2) (ea_cons h3 ea_nil))) H (Ex.refl _) _ fun H1 e1 => ⟨s, a, ns, n, rfl, hd.ex e1, h0, hn, fun d H2 hdn f => q _ H2 ((Fr.ex hd.1 e1).trans f) ⟨d, rfl, hdn⟩⟩

theorem ok_law_wide (T : TX K mg) : FnOk P w K mg base CX0 3 T.a_law_wide T.d_law_wide ["state", "script", "size"] (sp_draw K) := by
  refine T.F_law_wide.ok sc_law_wide (fun vs H Q E h => by obtain ⟨s, a, ns, n, rfl, _⟩ := h; rfl) (fun cdv A outer s0 H vs Q E hr h => ?_)
  obtain ⟨s, a, ns, n, rfl, hd, hn0, hn, k⟩ := h
  refine ⟨_, (pss_cons (ps_set (i := 3) sc_law_wide.nd rfl (Or.inl rfl) (pe_call (ok_law_draw T) (hr.mono (by decide)) (by rfl) T.g_law_draw T.F_law_draw.kp T.b_law_draw .nil pass0 (pa_cons (pv 0) (pa_cons (pv 1) (pa_cons pe_int pa_nil)))))
      (pss_cons (ps_if (pt_cmpR op_eq (pv 3) pe_int (nomark _)) (pss_one (ps_ret pe_int)) pss_nil)
      (pss_cons (ps_if (pt_cmpR op_eq (pv 3) pe_int (nomark _)) (pss_one (ps_ret (pe_op op_sub (pv 2) pe_int))) pss_nil)
      (pss_one (ps_ret (pe_call (ok_law_draw T) (hr.mono (by decide)) (by rfl) T.g_law_draw T.F_law_draw.kp T.b_law_draw .nil pass0 (pa_cons (pv 0) (pa_cons (pv 1) (pa_cons (pv 2) pa_nil))))))))), ?_⟩
  refine qw_asg (wi_draw hd rfl rfl ev_c (by decide) (by decide)) fun z H1 f1 hz => ?_
  have hd1 := hd.fr f1
  refine q_when (et_test (ev_eq (ev_var rfl) ev_c rfl)) (fun _ H2 e2 => s_ret (v := .int ((0 : Nat) : Int)) ev_c fun H3 e3 => k 0 H3 (by omega) (f1.tex (e2.trans e3))) (fun _ H2 e2 => ?_)
  refine q_when (et_test (ev_eq (ev_var rfl) ev_c rfl)) (fun _ H3 e3 => s_ret (v := .int ((n.toNat - 1 : Nat) : Int)) (Ev.is (ev_I0 (ev_var rfl) ev_c) (congrArg V.int (by omega))) fun H4 e4 => k _ H4 (by omega) (f1.tex ((e2.trans e3).trans e4))) (fun _ H3 e3 => ?_)
  refine sw_ret (wi_draw (hd1.ex (e2.trans e3)) rfl rfl (ev_var rfl) hn0 hn) fun i H4 f4 hi => ?_
  obtain ⟨d, rfl, hdn⟩ := hi
  exact k d H4 hdn ((f1.tex (e2.trans e3)).trans f4)

def sp_junk (K : PySem.W.Frag) : Sp := fun vs H Q _ => ∃ (s a : Addr) (ns : List Int) (m : Nat), vs = [.ref s, .ref a, .int (m : Int)] ∧ DrS K H s a ns ∧ m ≤ 1000 ∧ ∀ p (ds : List Nat) H', H p = none → Fr s H H' → H' p = some (.lst ((cs ds).map V.int)) → ds.length = m → (∀ d ∈ ds, d < 256) → Q (.ref p) H'
theorem ok_law_junk (T : TX K mg) : FnOk P w K mg base CX0 3 T.a_law_junk T.d_law_junk ["state", "script", "count"] (sp_junk K) := by
  refine T.F_law_junk.ok sc_law_junk (fun vs H Q E h => by obtain ⟨s, a, ns, m, rfl, _⟩ := h; rfl) (fun cdv A outer s0 H vs Q E hr h => ?_)
  obtain ⟨s, a, ns, m, rfl, hd, hm, k⟩ := h
  refine ⟨_, (pss_one (ps_ret (pe_lc (own := [("k", 3)]) (g := gName 3) (tt := tYes) rfl sc_law_junk.nd (pi_range1 (by rfl) T.m_range (pa_cons (pv 2) pa_nil)) (blkOk_by (N := ["state", "script", "count", "k"]) (sc := defScope s_law_junk) (by decide +kernel)) (fun _ _ _ _ _ => pg_name (i := 3) sc_law_junk.nd rfl (Or.inl rfl)) (fun _ _ _ _ _ => pts_nil) (fun _ _ _ _ _ => (pe_call (ok_law_draw T) (hr.mono (by decide)) (by rfl) T.g_law_draw T.F_law_draw.kp T.b_law_draw .nil pass0 (pa_cons (pv 0) (pa_cons (pv 1) (pa_cons pe_int pa_nil)))))))), ?_⟩
  refine tlc_rngW (n := (m : Int)) (ea_cons (ev_var rfl) ea_nil) (by omega) fun H1 e1 Dl hD => ⟨fun i H' => ∃ ds : List Nat, Fr s H H' ∧ H' Dl = some (.lst ((cs ds).map V.int)) ∧ ds.length = i ∧ ∀ d ∈ ds, d < 256, ⟨[], ?_, upd_same, rfl, fun d hd => by cases hd⟩, ?_, ?_⟩
  · exact Fr.ex hd.1 (Ex.mut e1 (fresh_back e1 hD))
  · rintro i H' hi ⟨ds, f, g, hl, hb⟩
    have hi : i < m := by omega
    have hDs : Dl ≠ s := ne_st hd.1 (fresh_back e1 hD)
    refine ⟨rfl, wi_draw (hd.fr f) rfl rfl ev_c (by decide) (by decide) _ fun z H2 f2 hz => ?_⟩
    obtain ⟨d, rfl, hdn⟩ := hz
    refine ⟨(cs ds).map V.int, f2.l hDs g, sz_lt (by rw [List.length_map, cs_len]; omega), ds ++ [d], (f.trans f2).mut (fresh_back e1 hD) hDs, ?_, by rw [List.length_append, hl]; rfl, fun y hy => ?_⟩
    · rw [upd_same, cs_append, List.map_append]
      rfl
    · rcases List.mem_append.mp hy with h | h
      · exact hb y h
      · rw [List.mem_singleton.mp h]
        omega
  · rintro H' ⟨ds, f, g, hl, hb⟩
    exact k Dl ds H' (fresh_back e1 hD) f g (by omega) hb
theorem and_mask255 (x : Nat) : Builtin.bitAnd (x : Int) 255 = ((x % 256 : Nat) : Int) := by
  have h := _root_.Bits.bitAnd_mask (x := (x : Int)) 8 (by omega)
  have e : (2 : Int) ^ 8 - 1 = 255 := rfl
  rw [e] at h
  rw [h]
  have e2 : (2 : Int) ^ 8 = 256 := rfl
  rw [e2]
  omega
def bigB (x n : Nat) : List Nat := (List.range n).map fun k => x / 2 ^ (8 * (n - 1 - k)) % 256
theorem bigB_len (x n : Nat) : (bigB x n).length = n := by unfold bigB; rw [List.length_map, List.length_range]
theorem bigB_lt (x n : Nat) : ∀ d ∈ bigB x n, d < 256 := fun d hd => by
  unfold bigB at hd
  obtain ⟨k, _, rfl⟩ := List.mem_map.mp hd
  exact Nat.mod_lt _ (by decide)
theorem p2n (j : Nat) : ((2 : Int) ^ j) = ((2 ^ j : Nat) : Int) := by rw [Int.natCast_pow]; rfl
theorem ev_byte {σ : L2.St} {H : Hp} {t1 t2 : TE} {x j : Nat} (h1 : Ev t1 σ H (.int (x : Int))) (h2 : Ev t2 σ H (.int (j : Int))) : Ev (tOp (rI0 fun i j => .int (Builtin.bitAnd i j)) (tOp (rI (fun _ j => 0 ≤ j) fun i j => .int (i / 2 ^ j.toNat)) t1 t2) (tC (.int 255))) σ H (.int ((x / 2 ^ j % 256 : Nat) : Int)) :=
  Ev.is (ev_I0 (Ev.is (ev_I h1 h2 (by omega)) (congrArg V.int (show (x : Int) / 2 ^ (j : Int).toNat = ((x / 2 ^ j : Nat) : Int) by rw [Int.toNat_natCast, p2n, Int.natCast_ediv]))) ev_c) (congrArg V.int (and_mask255 _))

def sp_numb : Sp := fun vs H Q _ => ∃ (x n : Nat), vs = [.int (x : Int), .int (n : Int)] ∧ n ≤ 1000 ∧ RetL ((cs (bigB x n)).map V.int) H Q
theorem ok_law_number_bytes (T : TX K mg) : FnOk P w K mg base CX0 1 T.a_law_number_bytes T.d_law_number_bytes ["number", "count"] sp_numb := by
  refine T.F_law_number_bytes.ok sc_law_number_bytes (fun vs H Q E h => by obtain ⟨x, n, rfl, _⟩ := h; rfl) (fun cdv A outer s0 H vs Q E hr h => ?_)
  obtain ⟨x, n, rfl, hn, k⟩ := h
  refine ⟨_, (pss_one (ps_ret (pe_lc (own := [("k", 2)]) (g := gName 2) (tt := tYes) rfl sc_law_number_bytes.nd (pi_range1 (by rfl) T.m_range (pa_cons (pv 1) pa_nil)) (blkOk_by (N := ["number", "count", "k"]) (sc := defScope s_law_number_bytes) (by decide +kernel)) (fun _ _ _ _ _ => pg_name (i := 2) sc_law_number_bytes.nd rfl (Or.inl rfl)) (fun _ _ _ _ _ => pts_nil) (fun _ _ _ _ _ => (pe_op op_and (pe_op op_shr (pv 0) (pe_op op_mul pe_int (pe_op op_sub (pe_op op_sub (pv 1) pe_int) (pv 2)))) pe_int))))), ?_⟩
  refine s_retL (el_lcR (n := (n : Int)) ((cs (bigB x n)).map V.int) (ea_cons (ev_var rfl) ea_nil) (by omega) (by rw [List.length_map, cs_len, bigB_len]; omega) (by rw [List.length_map, cs_len, bigB_len]; omega) (fun _ => rfl) fun i H1 e1 hi => ?_) k
  rw [List.length_map, cs_len, bigB_len] at hi
  exact ⟨_, at_int (cs_at (d := x / 2 ^ (8 * (n - 1 - i)) % 256) (by unfold bigB; rw [List.getElem?_map, List.getElem?_range hi]; rfl)), ev_byte (ev_var rfl) (Ev.is (ev_I ev_c (ev_I0 (ev_I0 (ev_var rfl) ev_c) (ev_var rfl)) (.inl (by decide))) (congrArg V.int (by omega)))⟩
theorem el_numb {σ : L2.St} {H : Hp} {t1 t2 : TE} {E : XK} {x n : Nat} (h1 : Ev t1 σ H (.int (x : Int))) (h2 : Ev t2 σ H (.int (n : Int))) (hn : n ≤ 1000) : EvL (tCall sp_numb [] E (tCons t1 (tCons t2 tNil))) σ H ((cs (bigB x n)).map V.int) := el_call (ea_cons h1 (ea_cons h2 ea_nil)) fun H1 _ Q q _ => ⟨x, n, rfl, hn, q⟩

theorem cs_get {ds : List Nat} {i : Nat} {x : V} (hx : ((cs ds).map V.int)[i]? = some x) : ∃ d, ds[i]? = some d ∧ i < ds.length ∧ x = V.int (d : Int) := by
  obtain ⟨n, hn, hi, rfl⟩ := int_at hx
  unfold cs at hn
  rw [List.getElem?_map] at hn
  cases e : ds[i]? with
  | none => rw [e] at hn; cases hn
  | some d =>
    rw [e] at hn
    exact ⟨d, rfl, (List.getElem?_eq_some_iff.mp e).1, by rw [← Option.some.inj hn]⟩

/-! ### ranges with a step -/
theorem s_forRC {σ : L2.St} {H : Hp} {D : Ends} {tu : TS} {ta : TA} {j n : Nat} {a b c : Int} (h : EvA ta σ H [.int a, .int b, .int c]) (hr : RgC a b c n) (Pv : Nat → L2.St → Hp → Prop) (h0 : ∀ H1, Ex H H1 → Pv 0 σ H1)
    (hs : ∀ i σ' H', i < n → Pv i σ' H' → tu { nx := Pv (i + 1), rt := D.rt, bk := D.nx, ct := Pv (i + 1) } (σ'.set j (some (.int (a + (i : Nat) * c)))) H') (hd : ∀ σ' H', Pv n σ' H' → D.nx σ' H') : tFor (iRng3 ta) (gName j) tu D σ H :=
  h H (Ex.refl H) _ fun H1 e1 => ⟨a, b, c, n, rfl, hr, for_rangeC Pv (h0 H1 e1) hs hd⟩
theorem q_forRC {σ : L2.St} {H : Hp} {D : Ends} {tu tz : TS} {ta : TA} {j n : Nat} {a b c : Int} (h : EvA ta σ H [.int a, .int b, .int c]) (hr : RgC a b c n) (Pv : Nat → L2.St → Hp → Prop) (h0 : ∀ H1, Ex H H1 → Pv 0 σ H1)
    (hs : ∀ i σ' H', i < n → Pv i σ' H' → tu { nx := Pv (i + 1), rt := D.rt, bk := tz D, ct := Pv (i + 1) } (σ'.set j (some (.int (a + (i : Nat) * c)))) H') (hd : ∀ σ' H', Pv n σ' H' → tz D σ' H') : tSeq (tFor (iRng3 ta) (gName j) tu) tz D σ H :=
  h H (Ex.refl H) _ fun H1 e1 => ⟨a, b, c, n, rfl, hr, for_rangeC Pv (h0 H1 e1) hs hd⟩
theorem el_lcC {σ : L2.St} {H : Hp} {ta : TA} {te : TE} {vs : List Nat} {j n : Nat} {a b c : Int} (zs : List V) (h1 : EvA ta σ H [.int a, .int b, .int c]) (hr : RgC a b c n) (hz : zs.length = n) (hb : zs.length ≤ 50000) (hw : ∀ x, wipe ((wipe σ vs).set j (some x)) vs = wipe σ vs)
    (he : ∀ (i : Nat) H1, Ex H H1 → i < n → ∃ z, zs[i]? = some z ∧ Ev te ((wipe σ vs).set j (some (.int (a + (i : Nat) * c)))) H1 z) : EvL (tLc (iRng3 ta) (gName j) tYes te vs) σ H zs := fun H0 e Q q =>
  h1 H0 e _ fun H1 e1 => ⟨a, b, c, n, rfl, hr, fun D hD => lc_it walk_rangeC (fun i H' => Ex H1 H' ∧ H' D = some (.lst (zs.take i))) ⟨Ex.new hD, upd_same⟩ (fun _ _ _ _ => trivial) (by
    rintro i x H' H'' hi ⟨ex, hd⟩ ⟨rfl, rfl⟩
    obtain ⟨z, hz1, hz2⟩ := he i H'' ((e.trans e1).trans ex) hi
    refine ⟨hw _, ?_⟩
    refine hz2 _ (Ex.refl _) _ fun H4 e4 => ⟨zs.take i, e4 _ _ hd, sz_lt (by rw [List.length_take]; omega), ?_, ?_⟩
    · exact Ex.mut (ex.trans e4) hD
    · rw [upd_same, take_snoc hz1]) fun H' ⟨ex, hd⟩ => by
      rw [← hz, List.take_length] at hd
      exact q D H' (fresh_back e1 hD) (e1.trans ex) hd⟩
theorem rs_m6 (i : Int) (n : Nat) : Builtin.Range.rangeSize i (i - 6 * n) (-6) = (n : Int) := by
  unfold Builtin.Range.rangeSize
  rw [if_neg (by decide), show (-(-6) : Int) = 6 from rfl]
  split <;> omega
theorem rg_m6 {i : Int} {n : Nat} (hi : -(2 ^ 60) ≤ i ∧ i < 2 ^ 60) (hn : n ≤ 100000) : RgC i (i - 6 * n) (-6) n := by
  refine ⟨by decide, by decide, ?_, rs_m6 i n⟩
  unfold Builtin.Range.small
  rw [rs_m6]
  simp only [Builtin.Range.rangeFitsLong, Bool.and_eq_true, Bool.or_eq_true, decide_eq_true_eq, beq_iff_eq, show ¬ ((-6 : Int) > 0) by decide, if_false]
  omega
theorem rs_m8 (i : Int) (n : Nat) : Builtin.Range.rangeSize i (i - 8 * n) (-8) = (n : Int) := by
  unfold Builtin.Range.rangeSize
  rw [if_neg (by decide), show (-(-8) : Int) = 8 from rfl]
  split <;> omega
theorem rg_m8 {i : Int} {n : Nat} (hi : -(2 ^ 60) ≤ i ∧ i < 2 ^ 60) (hn : n ≤ 100000) : RgC i (i - 8 * n) (-8) n := by
  refine ⟨by decide, by decide, ?_, rs_m8 i n⟩
  unfold Builtin.Range.small
  rw [rs_m8]
  simp only [Builtin.Range.rangeFitsLong, Bool.and_eq_true, Bool.or_eq_true, decide_eq_true_eq, beq_iff_eq, show ¬ ((-8 : Int) > 0) by decide, if_false]
  omega
theorem rs_8 (i : Int) (n : Nat) : Builtin.Range.rangeSize i (i + 8 * n) (8) = (n : Int) := by
  unfold Builtin.Range.rangeSize
  rw [if_pos (by decide)]
  split <;> omega
theorem rg_8 {i : Int} {n : Nat} (hi : -(2 ^ 60) ≤ i ∧ i < 2 ^ 60) (hn : n ≤ 100000) : RgC i (i + 8 * n) (8) n := by
  refine ⟨by decide, by decide, ?_, rs_8 i n⟩
  unfold Builtin.Range.small
  rw [rs_8]
  simp only [Builtin.Range.rangeFitsLong, Bool.and_eq_true, Bool.or_eq_true, decide_eq_true_eq, beq_iff_eq, show ((8 : Int) > 0) by decide, if_true]
  omega
theorem rs_18 (i : Int) (n : Nat) : Builtin.Range.rangeSize i (i + 18 * n) (18) = (n : Int) := by
  unfold Builtin.Range.rangeSize
  rw [if_pos (by decide)]
  split <;> omega
theorem rg_18 {i : Int} {n : Nat} (hi : -(2 ^ 60) ≤ i ∧ i < 2 ^ 60) (hn : n ≤ 100000) : RgC i (i + 18 * n) (18) n := by
  refine ⟨by decide, by decide, ?_, rs_18 i n⟩
  unfold Builtin.Range.small
  rw [rs_18]
  simp only [Builtin.Range.rangeFitsLong, Bool.and_eq_true, Bool.or_eq_true, decide_eq_true_eq, beq_iff_eq, show ((18 : Int) > 0) by decide, if_true]
  omega
theorem rs_12 (i : Int) (n : Nat) : Builtin.Range.rangeSize i (i + 12 * n) (12) = (n : Int) := by
  unfold Builtin.Range.rangeSize
  rw [if_pos (by decide)]
  split <;> omega
theorem rg_12 {i : Int} {n : Nat} (hi : -(2 ^ 60) ≤ i ∧ i < 2 ^ 60) (hn : n ≤ 100000) : RgC i (i + 12 * n) (12) n := by
  refine ⟨by decide, by decide, ?_, rs_12 i n⟩
  unfold Builtin.Range.small
  rw [rs_12]
  simp only [Builtin.Range.rangeFitsLong, Bool.and_eq_true, Bool.or_eq_true, decide_eq_true_eq, beq_iff_eq, show ((12 : Int) > 0) by decide, if_true]
  omega

/-! ### new lists, draws on the way -/
def EvLW (s : Addr) (te : TE) (σ : L2.St) (H : Hp) (P : List V → Prop) : Prop := ∀ Q : VK, (∀ p xs H2, H p = none → Fr s H H2 → H2 p = some (.lst xs) → P xs → Q (.ref p) H2) → te σ H Q
section
variable {s : Addr} {σ : L2.St} {H : Hp} {ta tb te : TE} {D : Ends} {tz tu : TS} {P : List V → Prop}
theorem wl_cat {xs : List V} (st : StAt H s) (ha : EvL ta σ H xs) (hb : ∀ H1, Fr s H H1 → EvLW s tb σ H1 P) (hl : ∀ ys, P ys → xs.length + ys.length ≤ 100000) : EvLW s (tOp rCat ta tb) σ H (fun zs => ∃ ys, P ys ∧ zs = xs ++ ys) := fun Q k =>
  ha H (Ex.refl _) _ fun p H1 hp e1 g1 => hb H1 (Fr.ex st e1) _ fun r ys H2 hr f2 g2 hy => ⟨p, r, xs, ys, rfl, rfl, f2.l (ne_st st hp) g1, g2, sz_of (hl ys hy), fun l hl' => by
    have f02 : Fr s H H2 := (Fr.ex st e1).trans f2
    exact k l _ _ (f02.fresh hl') (f02.tex (Ex.new hl')) upd_same ⟨ys, hy, rfl⟩⟩
theorem qw_asgL {i : Nat} (h : EvLW s te σ H P) (k : ∀ p xs H1, H p = none → Fr s H H1 → H1 p = some (.lst xs) → P xs → tz D (σ.set i (some (.ref p))) H1) : tSeq (tAsg te (gName i)) tz D σ H := h _ k
theorem sw_asgL {i : Nat} (h : EvLW s te σ H P) (k : ∀ p xs H1, H p = none → Fr s H H1 → H1 p = some (.lst xs) → P xs → D.nx (σ.set i (some (.ref p))) H1) : tAsg te (gName i) D σ H := h _ k
/-- [e for j in range(n)], n drawn, e draws -/
theorem tlc_rngWW {te0 : TE} {vs : List Nat} {j : Nat} {Q : VK} {p : Int → Prop} (h : EvI s te0 σ H p) (hp : ∀ i, p i → 0 ≤ i ∧ i ≤ 100000)
    (k : ∀ n H1, p n → Fr s H H1 → ∀ Dl, H1 Dl = none → ∃ Pv : Nat → Hp → Prop, Pv 0 (upd H1 Dl (.lst [])) ∧ (∀ (i : Nat) H', i < n.toNat → Pv i H' → wipe ((wipe σ vs).set j (some (.int (i : Int)))) vs = wipe σ vs ∧ te ((wipe σ vs).set j (some (.int (i : Int)))) H' fun y H4 => ∃ acc, H4 Dl = some (.lst acc) ∧ acc.length < sizeLine ∧ Pv (i + 1) (upd H4 Dl (.lst (acc ++ [y])))) ∧ (∀ H', Pv n.toNat H' → Q (.ref Dl) H')) :
    tLc (iRng1 (tCons te0 tNil)) (gName j) tYes te vs σ H Q := h _ fun n H1 f1 hn => ⟨n, rfl, by have := hp n hn; omega, by have := hp n hn; omega, fun Dl hD => by
  obtain ⟨Pv, h0, hs, hd⟩ := k n H1 hn f1 Dl hD
  refine lc_range (lo := 0) (n := n.toNat) Pv h0 (fun i H' hi p => ?_) hd
  rw [Int.zero_add]
  exact hs i H' hi p⟩
end

theorem wl_junk {s a : Addr} {ns : List Int} {σ : L2.St} {H : Hp} {tn : TE} {E : XK} {i j : Nat} {p : Int → Prop} (hd : DrS K H s a ns) (h1 : σ[i]? = some (some (.ref s))) (h2 : σ[j]? = some (some (.ref a))) (h3 : EvI s tn σ H p) (hp : ∀ z, p z → 0 ≤ z ∧ z ≤ 1000) :
    EvLW s (tCall (sp_junk K) [] E (tCons (tVar i) (tCons (tVar j) (tCons tn tNil)))) σ H (fun xs => ∃ ds : List Nat, xs = (cs ds).map V.int ∧ ds.length ≤ 1000 ∧ p (ds.length : Int) ∧ ∀ d ∈ ds, d < 256) := fun Q q =>
  ⟨_, h1, ⟨_, h2, h3 _ fun n H1 f1 hn => by
    have hn2 := hp n hn
    exact ⟨s, a, ns, n.toNat, by rw [Int.toNat_of_nonneg hn2.1]; rfl, hd.fr f1, by omega, fun r ds H2 hr f2 g2 hl hb => q r _ H2 (f1.fresh hr) (f1.trans f2) g2 ⟨ds, rfl, by omega, by rw [hl, Int.toNat_of_nonneg hn2.1]; exact hn, hb⟩⟩⟩⟩
theorem sw_setLR {s : Addr} {σ : L2.St} {H : Hp} {te ta tb : TE} {l : Addr} {xs : List V} {j : Nat} {D : Ends} {P : V → Prop} (h : ∀ Q : VK, (∀ v H1, Fr s H H1 → P v → Q v H1) → te σ H Q) (hls : l ≠ s) (hl : H l = some (.lst xs)) (ho : ∀ H1, Ev ta σ H1 (.ref l)) (hi : ∀ H1, Ev tb σ H1 (.int (j : Int))) (hj : j < xs.length) (k : ∀ v H1, P v → Fr s H H1 → D.nx σ (upd H1 l (.lst (xs.set j v)))) : tAsg te (gSub ta tb rSetL) D σ H :=
  h _ fun v H1 f1 hv => ho H1 H1 (Ex.refl _) _ fun H2 e2 => hi H2 H2 (Ex.refl _) _ fun H3 e3 => ⟨l, xs, (j : Int), j, rfl, rfl, (e2.trans e3) l _ (f1.l hls hl), ixN_nat hj, k v H3 hv (f1.tex (e2.trans e3))⟩
theorem qw_setLR {s : Addr} {σ : L2.St} {H : Hp} {te ta tb : TE} {l : Addr} {xs : List V} {j : Nat} {D : Ends} {tz : TS} {P : V → Prop} (h : ∀ Q : VK, (∀ v H1, Fr s H H1 → P v → Q v H1) → te σ H Q) (hls : l ≠ s) (hl : H l = some (.lst xs)) (ho : ∀ H1, Ev ta σ H1 (.ref l)) (hi : ∀ H1, Ev tb σ H1 (.int (j : Int))) (hj : j < xs.length) (k : ∀ v H1, P v → Fr s H H1 → tz D σ (upd H1 l (.lst (xs.set j v)))) : tSeq (tAsg te (gSub ta tb rSetL)) tz D σ H := sw_setLR (D := { D with nx := tz D }) h hls hl ho hi hj k
/-- a list of mine may change -/
theorem Fr.upd {s l : Addr} {H1 : Hp} {o : HO} (h : StAt H1 s) (hl : l ≠ s) : StAt (upd H1 l o) s := by obtain ⟨k, c, g⟩ := h; exact ⟨k, c, by rw [upd_ne (Ne.symm hl)]; exact g⟩
theorem cs_inj {a b : List Nat} (h : cs a = cs b) : a = b := by
  unfold cs at h
  exact (List.map_inj_right fun x y e => Int.ofNat.inj e).mp h
theorem cs_eqd (a b : List Nat) : decide (cs a = cs b) = decide (a = b) := decide_eq_decide.mpr ⟨cs_inj, fun h => by rw [h]⟩
theorem cs_set (ds : List Nat) (i d : Nat) : (cs ds).set i (d : Int) = cs (ds.set i d) := by unfold cs; rw [List.map_set]

/-! ### numbers of whole bytes -/
def valB (ds : List Nat) : Nat := ds.foldl (fun a d => a * 256 + d) 0
theorem valB_snoc (ds : List Nat) (d : Nat) : valB (ds ++ [d]) = valB ds * 256 + d := by unfold valB; rw [List.foldl_append]; rfl
theorem valB_lt {ds : List Nat} (h : ∀ d ∈ ds, d < 256) : ∀ i, i ≤ ds.length → valB (ds.take i) < 2 ^ (8 * i)
  | 0, _ => by rw [List.take_zero]; decide
  | i + 1, hi => by
    have ih := valB_lt h i (by omega)
    have hd : ds[i]? = some ds[i] := List.getElem?_eq_getElem (by omega)
    have hlt := h _ (List.mem_of_getElem? hd)
    rw [show ds.take (i + 1) = ds.take i ++ [ds[i]] from by rw [List.take_add_one, hd]; rfl, valB_snoc, show 8 * (i + 1) = 8 * i + 8 by omega, Nat.pow_add]
    have e : (2 : Nat) ^ 8 = 256 := rfl
    rw [e]
    omega
theorem bigB_take (x n : Nat) : ∀ i, i ≤ n → valB ((bigB x n).take i) = x / 2 ^ (8 * (n - i)) % 2 ^ (8 * i)
  | 0, _ => by
    rw [List.take_zero, Nat.mul_zero, Nat.pow_zero, Nat.mod_one]
    rfl
  | i + 1, hi => by
    have ih := bigB_take x n i (by omega)
    have hd : (bigB x n)[i]? = some (x / 2 ^ (8 * (n - 1 - i)) % 256) := by unfold bigB; rw [List.getElem?_map, List.getElem?_range (by omega)]; rfl
    rw [show (bigB x n).take (i + 1) = (bigB x n).take i ++ [x / 2 ^ (8 * (n - 1 - i)) % 256] from by rw [List.take_add_one, hd]; rfl, valB_snoc, ih, show n - (i + 1) = n - 1 - i by omega]
    have e1 : x / 2 ^ (8 * (n - i)) = x / 2 ^ (8 * (n - 1 - i)) / 256 := by
      rw [Nat.div_div_eq_div_mul, show 8 * (n - i) = 8 * (n - 1 - i) + 8 by omega, Nat.pow_add]
    rw [e1]
    generalize x / 2 ^ (8 * (n - 1 - i)) = y
    rw [show 8 * (i + 1) = 8 + 8 * i by omega, Nat.pow_add, show (2 : Nat) ^ 8 = 256 from rfl, Nat.mod_mul]
    omega
theorem valB_bigB {x n : Nat} (h : x < 2 ^ (8 * n)) : valB (bigB x n) = x := by
  have := bigB_take x n n (Nat.le_refl _)
  rw [List.take_of_length_le (by rw [bigB_len]; exact Nat.le_refl _), Nat.sub_self, Nat.mul_zero, Nat.pow_zero, Nat.div_one, Nat.mod_eq_of_lt h] at this
  exact this
theorem or_join8 (a d : Nat) (h : d < 256) : Builtin.bitOr ((a : Int) * 2 ^ (8 : Int).toNat) (d : Int) = ((a * 256 + d : Nat) : Int) := by
  have h1 := _root_.Bits.bitOr_join' (a := (d : Int)) (b := (a : Int)) (k := 8) (by omega) (by show _ < ((2 : Int) ^ 8); have e : ((2 : Int) ^ 8) = 256 := rfl; omega) (by omega)
  have e : (8 : Int).toNat = 8 := rfl
  rw [e, h1]
  have e2 : ((2 : Int) ^ 8) = 256 := rfl
  omega
def sp_bignum (K : PySem.W.Frag) : Sp := fun vs H Q _ => ∃ (a : Addr) (ds : List Nat) (pl c : Nat), vs = [.ref a, .int (pl : Int), .int (c : Int)] ∧ SqL K H a ((cs ds).map V.int) ∧ c ≤ 8 ∧ (∀ d ∈ ds, d < 256) ∧ RetV (.int (valB ((ds.drop pl).take c) : Int)) H Q
theorem ok_big_number (T : TX K mg) : FnOk P w K mg base CX0 1 T.a_big_number T.d_big_number ["data", "place", "count"] (sp_bignum K) := by
  refine T.F_big_number.ok sc_big_number (fun vs H Q E h => by obtain ⟨a, ds, pl, c, rfl, _⟩ := h; rfl) (fun cdv A outer s0 H vs Q E hr h => ?_)
  obtain ⟨a, ds, pl, c, rfl, hS, hc, hb, k⟩ := h
  refine ⟨_, (pss_cons (ps_set (i := 3) sc_big_number.nd rfl (Or.inl rfl) pe_int)
      (pss_cons (ps_for PassesOwn.never rfl (pi_list (pe_slice (r := rSlL K) sl_list (pv 0) (po_some (pv 1)) (po_some (pe_op op_add (pv 1) (pv 2))))) (pg_name (i := 4) sc_big_number.nd rfl (Or.inl rfl)) (pss_one (ps_set (i := 3) sc_big_number.nd rfl (Or.inl rfl) (pe_op op_or (pe_op op_shl (pv 3) pe_int) (pv 4)))))
      (pss_one (ps_ret (pv 3))))), ?_⟩
  refine q_asg ev_c fun H1 e1 => ?_
  generalize hbs : (ds.drop pl).take c = bs at *
  have hbl : bs.length ≤ 8 := by rw [← hbs, List.length_take]; omega
  have hbb : ∀ d ∈ bs, d < 256 := fun d hd => by rw [← hbs] at hd; exact hb d (List.mem_of_mem_drop (List.mem_of_mem_take hd))
  refine q_forNLn (K := K) (xs := (cs bs).map V.int) (EvL.is (el_mid (i := pl) (j := pl + c) (Ev.s (ev_var rfl) (ex_l e1 hS)) (ev_var rfl) (Ev.is (ev_I0 (ev_var rfl) (ev_var rfl)) (congrArg V.int (by omega)))) (by rw [Nat.add_sub_cancel_left, cs_drop, cs_take, hbs])) (fun q i σ' H' => ∃ z, σ' = [some (.ref a), some (.int (pl : Int)), some (.int (c : Int)), some (.int (valB (bs.take i) : Int)), z] ∧ Ex H H' ∧ H' q = some (.lst ((cs bs).map V.int))) (fun q H2 hq e2 g2 => ⟨none, rfl, e1.trans e2, g2⟩) (fun q i σ' H' _ h => by obtain ⟨_, _, _, g⟩ := h; exact sq_of g) ?_ ?_
  · rintro q i x σ' H2 hx ⟨z, rfl, ex, gq⟩
    obtain ⟨d, hd, hi, rfl⟩ := cs_get hx
    have hdb := hbb d (List.mem_of_getElem? hd)
    have hlt := valB_lt hbb i (by omega)
    have hi7 : i ≤ 7 := by omega
    have h56 : (2 : Nat) ^ (8 * i) ≤ 2 ^ 56 := Nat.pow_le_pow_right (by decide) (by omega)
    have e56 : (2 : Nat) ^ 56 = 72057594037927936 := rfl
    refine s_asg (v := .int (valB (bs.take (i + 1)) : Int)) (Ev.is (ev_I0 (ev_I (ev_var rfl) ev_c (show CPow ((valB (bs.take i) : Nat) : Int) 8 from ⟨by decide, by decide, by omega⟩)) (ev_var rfl)) (congrArg V.int ?_)) fun H3 e3 => ⟨_, rfl, ex.trans e3, e3 _ _ gq⟩
    rw [or_join8 _ _ hdb, show bs.take (i + 1) = bs.take i ++ [d] from by rw [List.take_add_one, hd]; rfl, valB_snoc]
  · rintro q σ' H2 ⟨z, rfl, ex, gq⟩
    rw [List.length_map, cs_len, List.take_length]
    exact s_ret (ev_var rfl) fun H3 e3 => k.go (ex.trans e3)
theorem ev_bignum {σ : L2.St} {H : Hp} {t1 t2 t3 : TE} {E : XK} {ds : List Nat} {pl c : Nat} (h1 : EvS K t1 σ H ((cs ds).map V.int)) (h2 : Ev t2 σ H (.int (pl : Int))) (h3 : Ev t3 σ H (.int (c : Int))) (hc : c ≤ 8) (hb : ∀ d ∈ ds, d < 256) : Ev (tCall (sp_bignum K) [] E (tCons t1 (tCons t2 (tCons t3 tNil)))) σ H (.int (valB ((ds.drop pl).take c) : Int)) := fun H1 e Q q =>
  h1 H1 e _ fun p H2 e2 hp => h2 H2 (e.trans e2) _ fun H3 e3 => h3 H3 ((e.trans e2).trans e3) _ fun H4 e4 => ⟨p, ds, pl, c, rfl, ex_l (e3.trans e4) hp, hc, hb, fun H5 e5 => q H5 (((e2.trans e3).trans e4).trans e5)⟩

/-! ### lists of triples -/
abbrev T3 := Nat × Nat × Nat
def triV (t : T3) : List V := [.int (t.1 : Int), .int (t.2.1 : Int), .int (t.2.2 : Int)]
def triD (t : T3) : PyData := .tuple [.int (t.1 : Int), .int (t.2.1 : Int), .int (t.2.2 : Int)]
def TupsAt (H : Hp) : List Addr → List T3 → Prop
  | [], [] => True
  | p :: ps, f :: fs => H p = some (.tup (triV f)) ∧ TupsAt H ps fs
  | _, _ => False
theorem TupsAt.len {H : Hp} : ∀ {ps : List Addr} {fs : List T3}, TupsAt H ps fs → ps.length = fs.length
  | [], [], _ => rfl
  | _ :: _, _ :: _, h => by rw [List.length_cons, List.length_cons, TupsAt.len h.2]
  | [], _ :: _, h => h.elim
  | _ :: _, [], h => h.elim
theorem TupsAt.get {H : Hp} : ∀ {ps : List Addr} {fs : List T3}, TupsAt H ps fs → ∀ (i : Nat) (p : Addr), ps[i]? = some p → ∃ f, fs[i]? = some f ∧ H p = some (.tup (triV f))
  | [], _, _, i, p, hp => by simp at hp
  | q :: ps, f :: fs, h, 0, p, hp => ⟨f, rfl, by cases hp; exact h.1⟩
  | q :: ps, f :: fs, h, i + 1, p, hp => TupsAt.get h.2 i p hp
  | _ :: _, [], h, _, _, _ => h.elim
theorem TupsAt.rel {H H' : Hp} (r : ∀ p t, H p = some (.tup t) → H' p = some (.tup t)) : ∀ {ps : List Addr} {fs : List T3}, TupsAt H ps fs → TupsAt H' ps fs
  | [], [], _ => trivial
  | _ :: _, _ :: _, h => ⟨r _ _ h.1, TupsAt.rel r h.2⟩
  | [], _ :: _, h => h.elim
  | _ :: _, [], h => h.elim
theorem TupsAt.ex {H H' : Hp} {ps : List Addr} {fs : List T3} (h : TupsAt H ps fs) (e : Ex H H') : TupsAt H' ps fs := h.rel fun p t g => e p _ g
theorem TupsAt.updL {H : Hp} {D : Addr} {xs ys : List V} {ps : List Addr} {fs : List T3} (h : TupsAt H ps fs) (hD : H D = some (.lst xs)) : TupsAt (upd H D (.lst ys)) ps fs := h.rel fun p t g => by
  have : p ≠ D := by rintro rfl; rw [hD] at g; cases g
  rw [upd_ne this]
  exact g
theorem TupsAt.fr {s : Addr} {H H' : Hp} {ps : List Addr} {fs : List T3} (h : TupsAt H ps fs) (st : StAt H s) (f : Fr s H H') : TupsAt H' ps fs := h.rel fun p t g => by
  have : p ≠ s := by rintro rfl; obtain ⟨k, c, q⟩ := st; rw [q] at g; cases g
  exact f.1 p _ this g
theorem TupsAt.snoc {H : Hp} {p : Addr} {f : T3} (hp : H p = some (.tup (triV f))) : ∀ {ps : List Addr} {fs : List T3}, TupsAt H ps fs → TupsAt H (ps ++ [p]) (fs ++ [f])
  | [], [], _ => ⟨hp, trivial⟩
  | _ :: _, _ :: _, h => ⟨h.1, TupsAt.snoc hp h.2⟩
  | [], _ :: _, h => h.elim
  | _ :: _, [], h => h.elim
theorem TupsAt.d {H : Hp} : ∀ {ps : List Addr} {fs : List T3}, TupsAt H ps fs → DpAll K H (ps.map V.ref) (fs.map triD)
  | [], [], _ => .nil
  | _ :: _, _ :: _, h => .cons (.tup (st_of h.1) (.cons (.int _) (.cons (.int _) (.cons (.int _) .nil)))) (TupsAt.d h.2)
  | [], _ :: _, h => h.elim
  | _ :: _, [], h => h.elim
theorem canLay_tris : ∀ fs : List T3, PyData.canLayAll0 (fs.map triD) = true
  | [] => by simp [PyData.canLayAll0]
  | f :: r => by
    show PyData.canLayAll0 (triD f :: r.map triD) = true
    rw [PyData.canLayAll0, canLay_tris r]
    simp [triD, PyData.canLay0, PyData.canLayAll0]
theorem depth_tris : ∀ fs : List T3, PyData.depthAll (fs.map triD) ≤ 3
  | [] => by simp [PyData.depthAll]
  | f :: r => by
    show PyData.depthAll (triD f :: r.map triD) ≤ 3
    have := depth_tris r
    simp only [triD, PyData.depthAll, PyData.depth] at *
    omega
theorem shaped_tris (fs : List T3) : SeqAt.shaped (.list (fs.map triD)) = true := by
  unfold SeqAt.shaped
  have h1 := canLay_tris fs
  have h2 := depth_tris fs
  rw [Bool.and_eq_true, decide_eq_true_iff]
  refine ⟨by simpa only [PyData.canLay0] using h1, ?_⟩
  rw [PyData.depth]
  omega
theorem shaped_tri (f : T3) : SeqAt.shaped (triD f) = true := by
  unfold SeqAt.shaped
  rw [Bool.and_eq_true, decide_eq_true_iff]
  exact ⟨by simp [triD, PyData.canLay0, PyData.canLayAll0], by simp only [triD, PyData.depth, PyData.depthAll]; omega⟩
/-- a, b, c = a triple -/
theorem ref_at {ps : List Addr} {i : Nat} {x : V} (hx : (ps.map V.ref)[i]? = some x) : ∃ p, ps[i]? = some p ∧ i < ps.length ∧ x = V.ref p := by
  rw [List.getElem?_map] at hx
  cases en : ps[i]? with
  | none => rw [en] at hx; cases hx
  | some n => rw [en] at hx; exact ⟨n, rfl, (List.getElem?_eq_some_iff.mp en).1, (Option.some.inj hx).symm⟩
theorem at_ref {ps : List Addr} {i : Nat} {p : Addr} (h : ps[i]? = some p) : (ps.map V.ref)[i]? = some (V.ref p) := by rw [List.getElem?_map, h]; rfl
theorem tups_take {H : Hp} : ∀ {ps : List Addr} {fs : List T3}, TupsAt H ps fs → ∀ i, TupsAt H (ps.take i) (fs.take i)
  | [], [], _, i => by rw [List.take_nil, List.take_nil]; trivial
  | _ :: _, _ :: _, _, 0 => trivial
  | _ :: _, _ :: _, h, i + 1 => ⟨h.1, tups_take h.2 i⟩
  | [], _ :: _, h, _ => h.elim
  | _ :: _, [], h, _ => h.elim

def Pts (H : Hp) (L : List (V × Option T3)) : Prop := ∀ x ∈ L, match x.2 with | none => x.1 = .non | some t => ∃ p, x.1 = .ref p ∧ H p = some (.tup (triV t))
theorem Pts.rel {H H' : Hp} {L : List (V × Option T3)} (r : ∀ p t, H p = some (.tup t) → H' p = some (.tup t)) (h : Pts H L) : Pts H' L := fun x hx => by
  have := h x hx
  revert this
  cases x.2 with
  | none => exact id
  | some t => exact fun ⟨p, h1, h2⟩ => ⟨p, h1, r _ _ h2⟩
theorem Pts.ex {H H' : Hp} {L : List (V × Option T3)} (h : Pts H L) (e : Ex H H') : Pts H' L := h.rel fun p t g => e p _ g
theorem Pts.fr {s : Addr} {H H' : Hp} {L : List (V × Option T3)} (h : Pts H L) (st : StAt H s) (f : Fr s H H') : Pts H' L := h.rel fun p t g => by
  have : p ≠ s := by rintro rfl; obtain ⟨k, c, q⟩ := st; rw [q] at g; cases g
  exact f.1 p _ this g
theorem pt_at {L : List (V × Option T3)} {i : Nat} {x : V} (h : (L.map (·.1))[i]? = some x) : ∃ y, L[i]? = some y ∧ x = y.1 := by
  rw [List.getElem?_map] at h
  cases e : L[i]? with
  | none => rw [e] at h; cases h
  | some y => rw [e] at h; exact ⟨y, rfl, (Option.some.inj h).symm⟩

/-- a number of the module -/
theorem ev_relC {σ : L2.St} {H : Hp} {i : Int} {u : Value} (_ : RelV (.int i) u) : Ev (tC (.int i)) σ H (.int i) := ev_c

/-! ### tuples: their kind, their length, a comprehension over one -/
theorem ev_isiT {σ : L2.St} {H : Hp} {ta : TE} {a : Addr} {xs : List V} (ha : Ev ta σ H (.ref a)) (h : H a = some (.tup xs)) : Ev (tCB (rIsi K) (tCons ta (tCons (tC (.ty "tuple")) tNil))) σ H (.bl true) := ev_isi ha (isi_tup h) kit_tt
theorem ev_lenT {σ : L2.St} {H : Hp} {ta : TE} {a : Addr} {xs : List V} (ha : Ev ta σ H (.ref a)) (h : H a = some (.tup xs)) : Ev (tCB (rLenS K) (tCons ta tNil)) σ H (.int (xs.length : Int)) := fun H1 e Q q =>
  ha H1 e _ fun H2 e2 => ⟨a, xs, rfl, .inr (st_of ((e.trans e2) _ _ h)), q H2 e2⟩
theorem el_lcT {σ : L2.St} {H : Hp} {t1 te : TE} {t : Addr} {xs : List V} {vs : List Nat} {j : Nat} (zs : List V) (h1 : Ev t1 σ H (.ref t)) (hT : SqT K H t xs) (hz : zs.length = xs.length) (hb : zs.length ≤ 50000) (hw : ∀ x, wipe ((wipe σ vs).set j (some x)) vs = wipe σ vs)
    (he : ∀ (i : Nat) (x : V) H1, Ex H H1 → xs[i]? = some x → ∃ z, zs[i]? = some z ∧ Ev te ((wipe σ vs).set j (some x)) H1 z) :
    EvL (tLc (iTup K t1) (gName j) tYes te vs) σ H zs := fun H0 e Q q =>
  h1 H0 e _ fun H1 e1 => ⟨t, rfl, ⟨xs, ex_t (e.trans e1) hT⟩, fun D hD => lc_tup (xs := xs) (fun i H' => Ex H1 H' ∧ H' D = some (.lst (zs.take i))) ⟨Ex.new hD, upd_same⟩ (fun i H' _ h => ex_t ((e.trans e1).trans h.1) hT)
    (fun i x H' hi h => ⟨hw x, by
      obtain ⟨z, hz1, hz2⟩ := he i x H' ((e.trans e1).trans h.1) hi
      have hl : i < xs.length := (List.getElem?_eq_some_iff.mp hi).1
      refine hz2 H' (Ex.refl _) _ fun H4 e4 => ⟨zs.take i, e4 _ _ h.2, sz_lt (by rw [List.length_take]; omega), Ex.mut (h.1.trans e4) hD, ?_⟩
      rw [upd_same, take_snoc hz1]⟩)
    (fun H' h => q D H' (fresh_back e1 hD) (e1.trans h.1) (by rw [h.2, ← hz, List.take_length]))⟩
theorem tri_int {t : T3} {j : Nat} {x : V} (hx : (triV t)[j]? = some x) : ∃ n : Int, x = .int n ∧ j < 3 := by
  unfold triV at hx
  match j, hx with
  | 0, hx => exact ⟨_, (Option.some.inj hx).symm, by decide⟩
  | 1, hx => exact ⟨_, (Option.some.inj hx).symm, by decide⟩
  | 2, hx => exact ⟨_, (Option.some.inj hx).symm, by decide⟩
  | j + 3, hx => simp at hx

/-! ### seek tables -/
def rowT (o : Option T3) : T3 := o.getD (18446744073709551615, 0, 0)
def pB (o : Option T3) : List Nat := bigB (rowT o).1 8 ++ bigB (rowT o).2.1 8 ++ bigB (rowT o).2.2 2
theorem pB_len (o : Option T3) : (pB o).length = 18 := by unfold pB; rw [List.length_append, List.length_append, bigB_len, bigB_len, bigB_len]
theorem pB_lt (o : Option T3) : ∀ d ∈ pB o, d < 256 := fun d hd => by
  unfold pB at hd
  rcases List.mem_append.mp hd with h | h
  · rcases List.mem_append.mp h with h | h
    · exact bigB_lt _ _ d h
    · exact bigB_lt _ _ d h
  · exact bigB_lt _ _ d h
theorem pB_none : pB none = bigB 18446744073709551615 8 ++ List.replicate 10 0 := by decide
def okO (o : Option T3) : Prop := match o with | none => True | some t => t.1 < 18446744073709551615 ∧ t.2.1 < 18446744073709551616 ∧ t.2.2 < 65536
def PtAt (H : Hp) (x : V × Option T3) : Prop := match x.2 with | none => x.1 = .non | some t => ∃ p, x.1 = .ref p ∧ H p = some (.tup (triV t))
theorem Pts.at {H : Hp} {L : List (V × Option T3)} (h : Pts H L) {i : Nat} {x : V × Option T3} (hx : L[i]? = some x) : PtAt H x := h x (List.mem_of_getElem? hx)
theorem PtAt.ex {H H' : Hp} {x : V × Option T3} (h : PtAt H x) (e : Ex H H') : PtAt H' x := (Pts.ex (L := [x]) (fun y hy => by rw [List.mem_singleton.mp hy]; exact h) e) x (List.mem_singleton.mpr rfl)
theorem Pts.snoc {H : Hp} {L : List (V × Option T3)} {x : V × Option T3} (h : Pts H L) (hx : PtAt H x) : Pts H (L ++ [x]) := fun y hy => by
  rcases List.mem_append.mp hy with h' | h'
  · exact h y h'
  · rw [List.mem_singleton.mp h']
    exact hx
theorem Pts.updL {H : Hp} {D : Addr} {xs ys : List V} {L : List (V × Option T3)} (h : Pts H L) (hD : H D = some (.lst xs)) : Pts (upd H D (.lst ys)) L := h.rel fun p t g => by
  have : p ≠ D := by rintro rfl; rw [hD] at g; cases g
  rw [upd_ne this]
  exact g
theorem PtAt.updL {H : Hp} {D : Addr} {xs ys : List V} {x : V × Option T3} (h : PtAt H x) (hD : H D = some (.lst xs)) : PtAt (upd H D (.lst ys)) x := (Pts.updL (L := [x]) (fun y hy => by rw [List.mem_singleton.mp hy]; exact h) hD) x (List.mem_singleton.mpr rfl)
def optD : Option T3 → PyData
  | none => .none
  | some t => triD t
theorem PtAt.d {H : Hp} {x : V × Option T3} (h : PtAt H x) : Dp K H x.1 (optD x.2) := by
  unfold PtAt at h
  revert h
  cases x.2 with
  | none => intro h; rw [show x.1 = V.non from h]; exact .non
  | some t => rintro ⟨p, h1, h2⟩; rw [h1]; exact .tup (st_of h2) (.cons (.int _) (.cons (.int _) (.cons (.int _) .nil)))
theorem Pts.d {H : Hp} : ∀ {L : List (V × Option T3)}, Pts H L → DpAll K H (L.map (·.1)) ((L.map (·.2)).map optD)
  | [], _ => .nil
  | x :: L, h => .cons (PtAt.d (h x (List.mem_cons_self ..))) (Pts.d fun y hy => h y (List.mem_cons_of_mem _ hy))
theorem canLay_opts : ∀ os : List (Option T3), PyData.canLayAll0 (os.map optD) = true
  | [] => by simp [PyData.canLayAll0]
  | o :: r => by
    show PyData.canLayAll0 (optD o :: r.map optD) = true
    rw [PyData.canLayAll0, canLay_opts r]
    cases o <;> simp [optD, triD, PyData.canLay0, PyData.canLayAll0]
theorem depth_opts : ∀ os : List (Option T3), PyData.depthAll (os.map optD) ≤ 3
  | [] => by simp [PyData.depthAll]
  | o :: r => by
    show PyData.depthAll (optD o :: r.map optD) ≤ 3
    have := depth_opts r
    cases o <;> (simp only [optD, triD, PyData.depthAll, PyData.depth] at *; omega)
theorem shaped_opts (os : List (Option T3)) : SeqAt.shaped (.list (os.map optD)) = true := by
  unfold SeqAt.shaped
  have h1 := canLay_opts os
  have h2 := depth_opts os
  rw [Bool.and_eq_true, decide_eq_true_iff]
  refine ⟨by simpa only [PyData.canLay0] using h1, ?_⟩
  rw [PyData.depth]
  omega
theorem shaped_opt (o : Option T3) : SeqAt.shaped (optD o) = true := by
  cases o with
  | none => rfl
  | some t => exact shaped_tri t
theorem ev_ptI {σ : L2.St} {H : Hp} {tl ti : TE} {L : List (V × Option T3)} {n : Int} {i : Nat} {x : V × Option T3} (h : EvS K tl σ H (L.map (·.1))) (hi : Ev ti σ H (.int n)) (hn : n = (i : Int)) (hx : L[i]? = some x) : Ev (tOp (rIxL K) tl ti) σ H x.1 := ev_ixS (i := 0) h hi (at_of (j := i) hn (by rw [List.getElem?_map, hx]; rfl))
def ptsB (os : List (Option T3)) : List Nat := os.flatMap pB
theorem ptsB_len (os : List (Option T3)) : (ptsB os).length = 18 * os.length := by
  induction os with
  | nil => rfl
  | cons o r ih =>
    show (pB o ++ ptsB r).length = _
    rw [List.length_append, pB_len, ih, List.length_cons]
    omega
theorem ptsB_lt (os : List (Option T3)) : ∀ d ∈ ptsB os, d < 256 := fun d hd => by
  obtain ⟨o, _, hd⟩ := List.mem_flatMap.mp hd
  exact pB_lt o d hd
theorem ptsB_snoc {os : List (Option T3)} {i : Nat} {o : Option T3} (h : os[i]? = some o) : ptsB (os.take (i + 1)) = ptsB (os.take i) ++ pB o := by
  unfold ptsB
  rw [show os.take (i + 1) = os.take i ++ [o] from by rw [List.take_add_one, h]; rfl, List.flatMap_append]
  show _ ++ (pB o ++ []) = _
  rw [List.append_nil]
theorem snd_at {L : List (V × Option T3)} {i : Nat} {x : V × Option T3} (h : L[i]? = some x) : (L.map (·.2))[i]? = some x.2 := by rw [List.getElem?_map, h]; rfl
def mayF (b p : Option T3) : Bool := match p with | none => true | some q => match b with | none => false | some r => decide (r.1 < q.1)
def sp_may : Sp := fun vs H Q _ => ∃ x y : V × Option T3, vs = [x.1, y.1] ∧ PtAt H x ∧ PtAt H y ∧ RetV (.bl (mayF x.2 y.2)) H Q
theorem ok_may_follow (T : TX K mg) : FnOk P w K mg base CX0 1 T.a_may_follow T.d_may_follow ["before", "point"] sp_may := by
  refine T.F_may_follow.ok sc_may_follow (fun vs H Q E h => by obtain ⟨x, y, rfl, _⟩ := h; rfl) (fun cdv A outer s0 H vs Q E hr h => ?_)
  obtain ⟨⟨v, o⟩, ⟨u, r⟩, rfl, hx, hy, k⟩ := h
  refine ⟨_, (pss_cons (ps_if (pt_cmpR op_isN1 (pv 1) pe_non (nomark _)) (pss_one (ps_ret pe_bl)) pss_nil)
      (pss_one (ps_ret (pe_and (pe_cmpR op_notN1 (pv 0) pe_non (nomark _)) (pe_one (pe_cmpR op_lt (pe_ix (r := rIxT K) ix_tup (pv 0) pe_int (fun _ _ => rfl)) (pe_ix (r := rIxT K) ix_tup (pv 1) pe_int (fun _ _ => rfl)) (nomark _))))))), ?_⟩
  cases r with
  | none =>
    obtain rfl : u = .non := hy
    refine q_when (b := true) (et_is (et_test (ev_isN (ev_var rfl))) (decide_eq_true rfl)) (fun _ H1 e1 => ?_) (fun h => by cases h)
    exact s_ret ev_c fun H2 e2 => k.go (e1.trans e2)
  | some q =>
    obtain ⟨pq, rfl, hq⟩ := hy
    refine q_when (b := false) (et_is (et_test (ev_isN (ev_var rfl))) (decide_eq_false (fun h => by cases h))) (fun h => by cases h) fun _ H1 e1 => ?_
    cases o with
    | none =>
      obtain rfl : v = .non := hx
      exact s_ret (v := .bl false) (ev_is (ev_andV (a := false) (b := false) (Ev.is (ev_notN (ev_var rfl)) rfl) fun h => by cases h) rfl) fun H2 e2 => k.go (e1.trans e2)
    | some t =>
      obtain ⟨pt, rfl, ht⟩ := hx
      exact s_ret (v := .bl (mayF (some t) (some q))) (ev_is (ev_andV (a := true) (b := decide (t.1 < q.1)) (Ev.is (ev_notN (ev_var rfl)) rfl) fun _ => Ev.is (ev_I0 (ev_atT (n := 0) (v := .int (t.1 : Int)) (ev_var rfl) (st_of (e1 _ _ ht)) ev_c (at_of (j := 0) rfl rfl)) (ev_atT (n := 0) (v := .int (q.1 : Int)) (ev_var rfl) (st_of (e1 _ _ hq)) ev_c (at_of (j := 0) rfl rfl))) (congrArg V.bl (decide_eq_decide.mpr (by omega)))) (by rw [Bool.true_and]; rfl)) fun H2 e2 => k.go (e1.trans e2)
theorem ev_may {σ : L2.St} {H : Hp} {t1 t2 : TE} {E : XK} {x y : V × Option T3} (h1 : Ev t1 σ H x.1) (h2 : Ev t2 σ H y.1) (hx : PtAt H x) (hy : PtAt H y) : Ev (tCall sp_may [] E (tCons t1 (tCons t2 tNil))) σ H (.bl (mayF x.2 y.2)) := ev_call (ea_cons h1 (ea_cons h2 ea_nil)) fun H1 e Q q _ => ⟨x, y, rfl, hx.ex e, hy.ex e, q⟩
def RetPt (o : Option T3) (H : Hp) (Q : VK) : Prop := ∀ v H', Ex H H' → PtAt H' (v, o) → Q v H'
def rB (t : T3) : List Nat := bigB t.1 8 ++ bigB t.2.1 8 ++ bigB t.2.2 2
def ptO (t : T3) : Option T3 := if t.1 = 18446744073709551615 then none else some t
def okR (t : T3) : Prop := t.1 ≤ 18446744073709551615 ∧ t.2.1 < 18446744073709551616 ∧ t.2.2 < 65536
theorem ptO_row {o : Option T3} (h : okO o) : ptO (rowT o) = o ∧ okR (rowT o) ∧ rB (rowT o) = pB o := by
  cases o with
  | none => exact ⟨rfl, ⟨by decide, by decide, by decide⟩, rfl⟩
  | some t =>
    have h1 := h.1
    refine ⟨?_, ⟨by show t.1 ≤ _; omega, h.2.1, h.2.2⟩, rfl⟩
    show ptO t = some t
    unfold ptO
    rw [if_neg (by omega)]
def sp_rpt (K : PySem.W.Frag) : Sp := fun vs H Q _ => ∃ (a : Addr) (ds : List Nat) (pl : Nat) (t : T3), vs = [.ref a, .int (pl : Int)] ∧ SqL K H a ((cs ds).map V.int) ∧ (∀ d ∈ ds, d < 256) ∧ (ds.drop pl).take 18 = rB t ∧ okR t ∧ RetPt (ptO t) H Q
theorem sub_take {ds bs : List Nat} {pl j m : Nat} (h : (ds.drop pl).take 18 = bs) (hj : j + m ≤ 18) : (ds.drop (pl + j)).take m = (bs.drop j).take m := by
  rw [← h, List.drop_take, List.take_take, List.drop_drop, Nat.min_eq_left (by omega)]
theorem ok_read_point (T : TX K mg) : FnOk P w K mg base CX0 2 T.a_read_point T.d_read_point ["data", "place"] (sp_rpt K) := by
  refine T.F_read_point.ok sc_read_point (fun vs H Q E h => by obtain ⟨a, ds, pl, t, rfl, _⟩ := h; rfl) (fun cdv A outer s0 H vs Q E hr h => ?_)
  obtain ⟨a, ds, pl, t, rfl, hS, hb, hds, hok, k⟩ := h
  refine ⟨_, (pss_cons (ps_set (i := 2) sc_read_point.nd rfl (Or.inl rfl) (pe_call (ok_big_number T) (hr.mono (by decide)) (by rfl) T.g_big_number T.F_big_number.kp T.b_big_number .nil pass0 (pa_cons (pv 0) (pa_cons (pv 1) (pa_cons pe_int pa_nil)))))
      (pss_cons (ps_if (pt_cmpR op_eq (pv 2) (pe_glob (by rfl) T.c_NO_SAMPLE T.r_NO_SAMPLE) (nomark _)) (pss_one (ps_ret pe_non)) pss_nil)
      (pss_one (ps_ret (pe_tup (pa_cons (pv 2) (pa_cons (pe_call (ok_big_number T) (hr.mono (by decide)) (by rfl) T.g_big_number T.F_big_number.kp T.b_big_number .nil pass0 (pa_cons (pv 0) (pa_cons (pe_op op_add (pv 1) pe_int) (pa_cons pe_int pa_nil)))) (pa_cons (pe_call (ok_big_number T) (hr.mono (by decide)) (by rfl) T.g_big_number T.F_big_number.kp T.b_big_number .nil pass0 (pa_cons (pv 0) (pa_cons (pe_op op_add (pv 1) pe_int) (pa_cons pe_int pa_nil)))) pa_nil)))))))), ?_⟩
  have hbnd : t.1 < 2 ^ (8 * 8) ∧ t.2.1 < 2 ^ (8 * 8) ∧ t.2.2 < 2 ^ (8 * 2) := by
    have e : (2 : Nat) ^ (8 * 8) = 18446744073709551616 := rfl
    have e2 : (2 : Nat) ^ (8 * 2) = 65536 := rfl
    rw [e, e2]
    exact ⟨by have := hok.1; omega, hok.2.1, hok.2.2⟩
  have h1 : valB ((ds.drop pl).take 8) = t.1 := by
    have := sub_take (j := 0) (m := 8) hds (by decide)
    rw [Nat.add_zero, List.drop_zero] at this
    rw [this]
    unfold rB
    have := List.take_left (l₁ := bigB t.1 8) (l₂ := bigB t.2.1 8 ++ bigB t.2.2 2)
    rw [bigB_len] at this
    rw [List.append_assoc, this]
    exact valB_bigB hbnd.1
  have h2 : valB ((ds.drop (pl + 8)).take 8) = t.2.1 := by
    rw [sub_take (j := 8) (m := 8) hds (by decide)]
    unfold rB
    have := List.drop_left (l₁ := bigB t.1 8) (l₂ := bigB t.2.1 8 ++ bigB t.2.2 2)
    rw [bigB_len] at this
    rw [List.append_assoc, this]
    have := List.take_left (l₁ := bigB t.2.1 8) (l₂ := bigB t.2.2 2)
    rw [bigB_len] at this
    rw [this]
    exact valB_bigB hbnd.2.1
  have h3 : valB ((ds.drop (pl + 16)).take 2) = t.2.2 := by
    rw [sub_take (j := 16) (m := 2) hds (by decide)]
    unfold rB
    have := List.drop_left (l₁ := bigB t.1 8 ++ bigB t.2.1 8) (l₂ := bigB t.2.2 2)
    rw [List.length_append, bigB_len, bigB_len] at this
    rw [this, List.take_of_length_le (by rw [bigB_len]; exact Nat.le_refl _)]
    exact valB_bigB hbnd.2.2
  refine q_asg (ev_bignum (pl := pl) (c := 8) (Ev.s (ev_var rfl) hS) (ev_var rfl) ev_c (by decide) hb) fun H1 e1 => ?_
  rw [h1]
  unfold ptO at k
  by_cases hn : t.1 = 18446744073709551615
  · rw [if_pos hn] at k
    refine q_when (b := true) (et_is (et_test (ev_eq (ev_var rfl) (ev_relC T.r_NO_SAMPLE) rfl)) (decide_eq_true (by rw [hn]; rfl))) (fun _ H2 e2 => ?_) (fun h => by cases h)
    exact s_ret ev_c fun H3 e3 => k _ H3 (e1.trans (e2.trans e3)) rfl
  · rw [if_neg hn] at k
    refine q_when (b := false) (et_is (et_test (ev_eq (ev_var rfl) (ev_relC T.r_NO_SAMPLE) rfl)) (decide_eq_false (fun h => by have := V.int.inj h; omega))) (fun h => by cases h) fun _ H2 e2 => ?_
    have e12 := e1.trans e2
    refine s_retU (xs := triV t) (eu_tup (ea_cons (ev_var rfl) (ea_cons (Ev.is (ev_bignum (pl := pl + 8) (c := 8) (Ev.s (ev_var rfl) (ex_l e12 hS)) (Ev.is (ev_I0 (ev_var rfl) ev_c) (congrArg V.int (by omega))) ev_c (by decide) hb) (congrArg (fun n : Nat => V.int (n : Int)) h2)) (ea_cons (Ev.is (ev_bignum (pl := pl + 16) (c := 2) (Ev.s (ev_var rfl) (ex_l e12 hS)) (Ev.is (ev_I0 (ev_var rfl) ev_c) (congrArg V.int (by omega))) ev_c (by decide) hb) (congrArg (fun n : Nat => V.int (n : Int)) h3)) ea_nil))) (Nat.le_of_ble_eq_true rfl)) fun q H3 hq e3 g3 => k _ H3 (e12.trans e3) ⟨q, rfl, g3⟩
theorem ev_rptR {σ : L2.St} {H : Hp} {t1 t2 : TE} {E : XK} {a : Addr} {ds : List Nat} {pl : Nat} {t : T3} {Q : VK} (h1 : Ev t1 σ H (.ref a)) (hS : SqL K H a ((cs ds).map V.int)) (h2 : Ev t2 σ H (.int (pl : Int))) (hb : ∀ d ∈ ds, d < 256) (hds : (ds.drop pl).take 18 = rB t) (hok : okR t) (k : RetPt (ptO t) H Q) : tCall (sp_rpt K) [] E (tCons t1 (tCons t2 tNil)) σ H Q :=
  h1 H (Ex.refl _) _ fun H1 e1 => h2 H1 e1 _ fun H2 e2 => ⟨a, ds, pl, t, rfl, ex_l (e1.trans e2) hS, hb, hds, hok, fun v H3 e3 hv => k v H3 ((e1.trans e2).trans e3) hv⟩

/-- the same, asked while an exception is handled -/
theorem okh_law_is_integer (T : TX K mg) : L2H.FnH P w K mg base CX0 1 T.a_law_is_integer T.d_law_is_integer ["actual"] sp_isint := by
  refine T.F_law_is_integer.okH sc_law_is_integer (fun vs H Q E h => by obtain ⟨n, rfl, _⟩ := h; rfl) (fun cdv A outer s H vs Q E p hr h => ?_)
  obtain ⟨n, rfl, k⟩ := h
  refine ⟨_, (pss_one (ps_ret (pe_and (pe_callB (r := rIsi K) call_isi (by rfl) T.m_isinstance PyProof.Rows.boot_isinstance (pa_cons (pv 0) (pa_cons (pe_bltn (v := V.ty "int") (by rfl) T.m_int PyProof.Rows.boot_int rfl) pa_nil))) (pe_one (pe_not (pe_callB (r := rIsi K) call_isi (by rfl) T.m_isinstance PyProof.Rows.boot_isinstance (pa_cons (pv 0) (pa_cons (pe_bltn (v := V.ty "bool") (by rfl) T.m_bool PyProof.Rows.boot_bool rfl) pa_nil)))))))), ?_⟩
  walk_at "ret"
  intro H2 e2
  exact ret_eq k e2 rfl
theorem ev_isintH {σ : L2.St} {H : Hp} {te : TE} {E : L2.St → XK} {n : Int} (h : Ev te σ H (.int n)) : Ev (tCallS sp_isint E (tCons te tNil)) σ H (.bl true) := fun H1 e Q q =>
  h H1 e _ fun H2 e2 => ⟨n, rfl, fun H3 e3 => q H3 (e2.trans e3)⟩

/-! ### where a seek table is wrong -/
def rowsB (ts : List T3) : List Nat := ts.flatMap rB
theorem rB_len (t : T3) : (rB t).length = 18 := by unfold rB; rw [List.length_append, List.length_append, bigB_len, bigB_len, bigB_len]
theorem rB_lt (t : T3) : ∀ d ∈ rB t, d < 256 := fun d hd => by
  unfold rB at hd
  rcases List.mem_append.mp hd with h | h
  · rcases List.mem_append.mp h with h | h
    · exact bigB_lt _ _ d h
    · exact bigB_lt _ _ d h
  · exact bigB_lt _ _ d h
theorem rowsB_len (ts : List T3) : (rowsB ts).length = 18 * ts.length := by
  induction ts with
  | nil => rfl
  | cons o r ih =>
    show (rB o ++ rowsB r).length = _
    rw [List.length_append, rB_len, ih, List.length_cons]
    omega
theorem rowsB_lt (ts : List T3) : ∀ d ∈ rowsB ts, d < 256 := fun d hd => by
  obtain ⟨o, _, hd⟩ := List.mem_flatMap.mp hd
  exact rB_lt o d hd
theorem rowsB_snoc (ts : List T3) (t : T3) : rowsB (ts ++ [t]) = rowsB ts ++ rB t := by
  unfold rowsB
  rw [List.flatMap_append]
  show _ ++ (rB t ++ []) = _
  rw [List.append_nil]
def badA (os : List (Option T3)) (k : Nat) : Prop := ∃ x y, os[k - 1]? = some x ∧ os[k]? = some y ∧ mayF x y = false
def goodT (os : List (Option T3)) (n : Nat) : Prop := ∀ k, 0 < k → k < n → ¬ badA os k
def errF (n : Nat) : PyData := .tuple [.str "error", .bool true, .bool false, .int (n : Int)]
def errO (n : Nat) : PyData := .tuple [.str "error", .bool false, .bool true, .int (n : Int)]
def ptsD (os : List (Option T3)) : PyData := .tuple [.str "points", .list (os.map optD)]
def OutD (os : List (Option T3)) (ex st : Nat) (d : PyData) : Prop := (0 < ex ∧ d = errF st) ∨ (ex = 0 ∧ ∃ k, 0 < k ∧ k < os.length ∧ goodT os k ∧ badA os k ∧ d = errO (st + 18 * k)) ∨ (ex = 0 ∧ goodT os os.length ∧ d = ptsD os)
theorem outD_uni {os : List (Option T3)} {ex st : Nat} {d d' : PyData} (h : OutD os ex st d) (h' : OutD os ex st d') : d = d' := by
  rcases h with ⟨h0, rfl⟩ | ⟨h0, k, h1, h2, h3, h4, rfl⟩ | ⟨h0, h1, rfl⟩ <;> rcases h' with ⟨g0, rfl⟩ | ⟨g0, k', g1, g2, g3, g4, rfl⟩ | ⟨g0, g1, rfl⟩
  · rfl
  · omega
  · omega
  · omega
  · have : k = k' := by
      rcases Nat.lt_trichotomy k k' with h | h | h
      · exact absurd h4 (g3 k h1 h)
      · exact h
      · exact absurd g4 (h3 k' g1 h)
    rw [this]
  · exact absurd h4 (g1 k h1 h2)
  · omega
  · exact absurd g4 (h1 k' g1 g2)
  · rfl
theorem first_bad (os : List (Option T3)) : ∀ n, goodT os n ∨ ∃ k, 0 < k ∧ k < n ∧ goodT os k ∧ badA os k
  | 0 => .inl fun k _ h => absurd h (Nat.not_lt_zero k)
  | n + 1 => by
    rcases first_bad os n with h | ⟨k, h1, h2, h3⟩
    · by_cases hb : 0 < n ∧ badA os n
      · exact .inr ⟨n, hb.1, Nat.lt_succ_self n, h, hb.2⟩
      · refine .inl fun k h1 h2 => ?_
        by_cases hk : k < n
        · exact h k h1 hk
        · obtain rfl : k = n := by omega
          exact fun hb' => hb ⟨h1, hb'⟩
    · exact .inr ⟨k, h1, by omega, h3⟩
theorem outD_any (os : List (Option T3)) (ex st : Nat) : ∃ d, OutD os ex st d := by
  by_cases h0 : 0 < ex
  · exact ⟨_, .inl ⟨h0, rfl⟩⟩
  · rcases first_bad os os.length with h | ⟨k, h1, h2, h3, h4⟩
    · exact ⟨_, .inr (.inr ⟨by omega, h, rfl⟩)⟩
    · exact ⟨_, .inr (.inl ⟨by omega, k, h1, h2, h3, h4, rfl⟩)⟩
theorem outD_shaped {os : List (Option T3)} {ex st : Nat} {d : PyData} (h : OutD os ex st d) : SeqAt.shaped d = true := by
  rcases h with ⟨_, rfl⟩ | ⟨_, k, _, _, _, _, rfl⟩ | ⟨_, _, rfl⟩
  · unfold SeqAt.shaped errF
    rw [Bool.and_eq_true, decide_eq_true_iff]
    exact ⟨by simp only [PyData.canLay0, PyData.canLayAll0]; decide +kernel, by simp only [PyData.depth, PyData.depthAll]; omega⟩
  · unfold SeqAt.shaped errO
    rw [Bool.and_eq_true, decide_eq_true_iff]
    exact ⟨by simp only [PyData.canLay0, PyData.canLayAll0]; decide +kernel, by simp only [PyData.depth, PyData.depthAll]; omega⟩
  · unfold SeqAt.shaped ptsD
    have h1 := canLay_opts os
    have h2 := depth_opts os
    rw [Bool.and_eq_true, decide_eq_true_iff]
    refine ⟨by simp only [PyData.canLay0, PyData.canLayAll0, h1]; decide +kernel, ?_⟩
    simp only [PyData.depth, PyData.depthAll]
    omega
theorem goodT_succ {os : List (Option T3)} {i : Nat} (h : goodT os i) (hb : 0 < i → ¬ badA os i) : goodT os (i + 1) := fun k h1 h2 => by
  by_cases hk : k < i
  · exact h k h1 hk
  · obtain rfl : k = i := by omega
    exact hb h1
theorem at_last {xs : List V} {x : V} {n : Nat} (hn : xs.length = n + 1) (h : xs[n]? = some x) : atI xs (-1) = some x := by
  unfold atI ixN
  rw [if_neg (by decide), if_pos (by omega)]
  show xs[(-1 + (xs.length : Int)).toNat]? = some x
  rw [hn, show (-1 + ((n + 1 : Nat) : Int)).toNat = n by omega]
  exact h
def RdErr (E : XK) (C : Addr) (nm : Str) (n : Nat) (H : Hp) : Prop := ∀ H' dd, Ex H H' → ErrD H' dd nm (n : Int) → E (.ref C) (some dd) H'
def sp_rtab (K : PySem.W.Frag) (CF CO : Addr) : Sp := fun vs H Q E => ∃ (a : Addr) (pre post : List Nat) (ts : List T3) (ex : Nat), vs = [.ref a, .int (pre.length : Int), .int ((pre.length + 18 * ts.length + ex : Nat) : Int)] ∧ SqL K H a ((cs (pre ++ (rowsB ts ++ post))).map V.int) ∧ (∀ d ∈ pre ++ (rowsB ts ++ post), d < 256) ∧ (∀ t ∈ ts, okR t) ∧ ts.length ≤ 1000 ∧ pre.length ≤ 100000 ∧ ex < 18 ∧
  (0 < ex → RdErr E CF "InvalidForm" pre.length H) ∧ (ex = 0 → ∀ k, 0 < k → k < ts.length → goodT (ts.map ptO) k → badA (ts.map ptO) k → RdErr E CO "OutOfOrder" (pre.length + 18 * k) H) ∧
  (ex = 0 → goodT (ts.map ptO) ts.length → ∀ p (L : List (V × Option T3)) H', H p = none → Ex H H' → H' p = some (.lst (L.map (·.1))) → Pts H' L → L.map (·.2) = ts.map ptO → Q (.ref p) H')
theorem ok_read_seektable (T : TX K mg) : FnOk P w K mg base (L2N.CX P w) 3 T.a_read_seektable T.d_read_seektable ["data", "start", "stop"] (sp_rtab K T.C_InvalidForm T.C_OutOfOrder) := by
  refine T.F_read_seektable.okN sc_read_seektable (fun vs H Q E h => by obtain ⟨a, pre, post, ts, ex, rfl, _⟩ := h; rfl) (fun cdv A outer s0 H vs Q E hr h => ?_)
  obtain ⟨a, pre, post, ts, ex, rfl, hS, hb, hok, hl, hpl, hex, kF, kO, k⟩ := h
  refine ⟨_, (pss_cons (ps_if (pt_cmpR op_ne (pe_op op_mod (pe_op op_sub (pv 2) (pv 1)) (pe_glob (by rfl) T.c_POINT_LENGTH T.r_POINT_LENGTH)) pe_int (nomark _)) (pss_one (L2N.ps_raise rfl (L2N.takes_of rfl rfl rfl rfl) (pmkN_oex T.x_InvalidForm.ox T.x_InvalidForm.iC T.ti_MonochordError_init (ok_MonochordError_init T) (hr.mono (by decide)) T.b_MonochordError_init .nil pass0 (by rfl) T.g_InvalidForm (pa_cons (pv 1) pa_nil)))) pss_nil)
      (pss_cons (ps_set (i := 3) sc_read_seektable.nd rfl (Or.inl rfl) (pe_lst pa_nil))
      (pss_cons (ps_for (passes_of rfl) rfl (pi_range3 (by rfl) T.m_range (pa_cons (pv 1) (pa_cons (pv 2) (pa_cons (pe_glob (by rfl) T.c_POINT_LENGTH T.r_POINT_LENGTH) pa_nil)))) (pg_name (i := 4) sc_read_seektable.nd rfl (Or.inl rfl)) (pss_cons (ps_set (i := 5) sc_read_seektable.nd rfl (Or.inl rfl) (pe_call (ok_read_point T) (hr.mono (by decide)) (by rfl) T.g_read_point T.F_read_point.kp T.b_read_point .nil pass0 (pa_cons (pv 0) (pa_cons (pv 4) pa_nil))))
        (pss_cons (ps_if (PW.pt (pw_and (pt_cmpR op_gt (pe_callB (r := rLenS K) call_len_seq (by rfl) T.m_len PySem.boot_len (pa_cons (pv 3) pa_nil)) pe_int (nomark _)) (pw_and1 (pt_not (pt_val (pe_call (ok_may_follow T) (hr.mono (by decide)) (by rfl) T.g_may_follow T.F_may_follow.kp T.b_may_follow .nil pass0 (pa_cons (pe_ix (r := rIxL K) ix_list (pv 3) (pe_un un_neg pe_int) (fun _ _ => rfl)) (pa_cons (pv 5) pa_nil)))))))) (pss_one (L2N.ps_raise rfl (L2N.takes_of rfl rfl rfl rfl) (pmkN_oex T.x_OutOfOrder.ox T.x_OutOfOrder.iC T.ti_MonochordError_init (ok_MonochordError_init T) (hr.mono (by decide)) T.b_MonochordError_init .nil pass0 (by rfl) T.g_OutOfOrder (pa_cons (pv 4) pa_nil)))) pss_nil)
        (pss_one (ps_expr (pe_bm PySem.F.plainAttrs_list PySem.F.slot_list_append PySem.F.type_list_append mt_append (pv 3) (pa_cons (pv 5) pa_nil)))))))
      (pss_one (ps_ret (pv 3)))))), ?_⟩
  refine q_when (b := decide (0 < ex)) (et_is (et_test (ev_ne (ev_I (ev_I0 (ev_var rfl) (ev_var rfl)) (ev_relC T.r_POINT_LENGTH) (by decide)) ev_c rfl)) (by
    rw [show (((pre.length + 18 * ts.length + ex : Nat) : Int) - (pre.length : Int)) % 18 = (ex : Int) by omega]
    by_cases h : 0 < ex
    · rw [decide_eq_true h, decide_eq_false (fun z => by have := V.int.inj z; omega)]; rfl
    · rw [decide_eq_false h, decide_eq_true (by rw [show ex = 0 by omega]; rfl)]; rfl)) (fun h H1 e1 => ?_) fun h H1 e1 => ?_
  · exact mk_err T.x_InvalidForm (ea_cons (ev_var rfl) ea_nil) fun H5 dd hdd e5 he => kF (of_decide_eq_true h) H5 dd (e1.trans e5) he
  have h := of_decide_eq_false h
  obtain rfl : ex = 0 := by omega
  have kO := kO rfl
  have k := k rfl
  obtain ⟨os, hos⟩ : ∃ os : List (Option T3), ts.map ptO = os := ⟨_, rfl⟩
  rw [hos] at kO k
  have hol : os.length = ts.length := by rw [← hos, List.length_map]
  refine q_asgL (xs := []) (el_lst ea_nil (by decide)) fun q H2 hq2 e2 g2 => ?_
  have hq := fresh_back e1 hq2
  refine q_forRC (n := ts.length) (a := (pre.length : Int)) (b := ((pre.length + 18 * ts.length + 0 : Nat) : Int)) (c := 18) (ea_cons (ev_var rfl) (ea_cons (ev_var rfl) (ea_cons (ev_relC T.r_POINT_LENGTH) ea_nil))) (by have := rg_18 (i := (pre.length : Int)) (n := ts.length) (by omega) (by omega); rwa [show (pre.length : Int) + 18 * (ts.length : Int) = ((pre.length + 18 * ts.length + 0 : Nat) : Int) by omega] at this) (fun i σ' H' => ∃ (L : List (V × Option T3)) (z4 z5 : Option V), σ' = [some (.ref a), some (.int (pre.length : Int)), some (.int ((pre.length + 18 * ts.length + 0 : Nat) : Int)), some (.ref q), z4, z5] ∧ Ex H H' ∧ H' q = some (.lst (L.map (·.1))) ∧ Pts H' L ∧ L.map (·.2) = os.take i ∧ goodT os i) (fun H3 e3 => ⟨[], none, none, rfl, e1.trans (e2.trans e3), e3 _ _ g2, (fun x hx => by cases hx), rfl, fun k h1 h2 => absurd h2 (Nat.not_lt_zero k)⟩) ?_ ?_
  · rintro i σ' H3 hi ⟨L, z4, z5, rfl, exx, gq, hP, hL, hgd⟩
    have ht : ts[i]? = some ts[i] := List.getElem?_eq_getElem hi
    obtain ⟨t, hte⟩ : ∃ t, ts[i] = t := ⟨_, rfl⟩
    rw [hte] at ht
    have ho : os[i]? = some (ptO t) := by rw [← hos, List.getElem?_map, ht]; rfl
    have hLl : L.length = i := by have := congrArg List.length hL; rw [List.length_map, List.length_take] at this; omega
    have hU : rowsB ts = rowsB (ts.take i) ++ (rB t ++ rowsB (ts.drop (i + 1))) := by
      have : ts = ts.take i ++ (t :: ts.drop (i + 1)) := by
        rw [← hte, List.getElem_cons_drop, List.take_append_drop]
      conv => lhs; rw [this]
      unfold rowsB
      rw [List.flatMap_append]
      rfl
    have hpi : (rowsB (ts.take i)).length = 18 * i := by rw [rowsB_len, List.length_take]; omega
    have hdrop : ((pre ++ (rowsB ts ++ post)).drop (pre.length + 18 * i)).take 18 = rB t := by
      rw [List.drop_append, List.drop_of_length_le (by omega), show pre.length + 18 * i - pre.length = 18 * i by omega, hU, List.append_assoc, ← hpi, List.drop_left, List.nil_append, List.append_assoc]
      have := List.take_left (l₁ := rB t) (l₂ := rowsB (ts.drop (i + 1)) ++ post)
      rw [rB_len] at this
      exact this
    refine q_asgRaw (fun v H4 => Ex H3 H4 ∧ PtAt H4 (v, ptO t)) (fun Q' q' => ev_rptR (pl := pre.length + 18 * i) (ev_var rfl) (ex_l exx hS) (Ev.is (ev_var rfl) (congrArg V.int (by omega))) hb hdrop (hok t (List.mem_of_getElem? ht)) fun v H4 e4 hv => q' v H4 ⟨e4, hv⟩) ?_
    rintro v H4 ⟨e4, hv⟩
    obtain ⟨m, hm⟩ : ∃ m, (if i = 0 then true else mayF (os.getD (i - 1) none) (ptO t)) = m := ⟨_, rfl⟩
    have hprev : 0 < i → os[i - 1]? = some (os.getD (i - 1) none) := fun h0 => by rw [List.getD_eq_getElem?_getD, List.getElem?_eq_getElem (show i - 1 < os.length by omega)]; rfl
    refine q_when (b := decide (0 < i) && !m) (et_and (a := decide (0 < i)) (b := !m) (et_is (et_test (ev_I0 (ev_lenS (Ev.s (ev_var rfl) (sq_of (e4 _ _ gq)))) ev_c)) (by rw [List.length_map, hLl, decide_eq_decide]; omega)) fun h0 => ?_) (fun hbt H5 e5 => ?_) fun hbf H5 e5 => ?_
    · have h0 : 0 < i := of_decide_eq_true h0
      have hx : L[i - 1]? = some L[i - 1] := List.getElem?_eq_getElem (by omega)
      have hs2 := snd_at hx
      rw [hL, List.getElem?_take, if_pos (by omega), hprev h0] at hs2
      rw [if_neg (by omega), Option.some.inj hs2] at hm
      exact et_is (et_not (et_B (ev_may (x := L[i - 1]) (y := (v, ptO t)) (ev_ixS (i := 0) (n := -1) (Ev.s (ev_var rfl) (sq_of (e4 _ _ gq))) (ev_negI ev_c) (at_last (n := i - 1) (by rw [List.length_map]; omega) (by rw [List.getElem?_map, hx]; rfl))) (ev_var rfl) ((hP.at hx).ex e4) hv))) (by rw [← hm])
    · rw [Bool.and_eq_true, decide_eq_true_iff] at hbt
      have hm2 : m = false := by cases m with | false => rfl | true => cases hbt.2
      rw [if_neg (by omega), hm2] at hm
      exact mk_err T.x_OutOfOrder (ea_cons (Ev.is (ev_var rfl) (congrArg V.int (a₂ := ((pre.length + 18 * i : Nat) : Int)) (by omega))) ea_nil) fun H6 dd hdd e6 he => kO i hbt.1 hi hgd ⟨_, _, hprev hbt.1, ho, hm⟩ H6 dd (exx.trans (e4.trans (e5.trans e6))) he
    have hgd2 : goodT os (i + 1) := goodT_succ hgd fun h0 ⟨x, y, hx, hy, hxy⟩ => by
      rw [hprev h0] at hx
      rw [ho] at hy
      cases hx
      cases hy
      rw [if_neg (by omega), hxy] at hm
      rw [← hm, decide_eq_true h0] at hbf
      cases hbf
    refine s_app (v := v) ((e4.trans e5) _ _ gq) (ev_var rfl) (ev_var rfl) (by rw [List.length_map]; omega) fun H6 e6 => ⟨L ++ [(v, ptO t)], _, _, rfl, Ex.mut (exx.trans ((e4.trans e5).trans e6)) hq, by rw [upd_same, List.map_append]; rfl, ((hP.ex ((e4.trans e5).trans e6)).snoc (hv.ex (e5.trans e6))).updL (((e4.trans e5).trans e6) _ _ gq), ?_, hgd2⟩
    rw [List.map_append, hL, show os.take (i + 1) = os.take i ++ [ptO t] from by rw [List.take_add_one, ho]; rfl]
    rfl
  · rintro σ' H3 ⟨L, z4, z5, rfl, exx, gq, hP, hL, hgd⟩
    rw [← hol, List.take_length] at hL
    exact s_ret (v := .ref q) (ev_var rfl) fun H4 e4 => k hgd q L H4 hq (exx.trans e4) (e4 _ _ gq) (hP.ex e4) hL
theorem callX {σ : L2.St} {H : Hp} {sp : Sp} {dvs args : List V} {E : L2.St → XK} {ta : TA} (h : EvA ta σ H args) {Q : VK} (k : ∀ H1, Ex H H1 → sp (args ++ dvs) H1 Q (E σ)) : tCallX sp dvs E ta σ H Q := h H (Ex.refl H) _ fun H1 e => k H1 e
def sp_lout (K : PySem.W.Frag) : Sp := fun vs H Q _ => ∃ (a : Addr) (pre post : List Nat) (ts : List T3) (ex : Nat) (d : PyData), vs = [.ref a, .int (pre.length : Int), .int ((pre.length + 18 * ts.length + ex : Nat) : Int)] ∧ SqL K H a ((cs (pre ++ (rowsB ts ++ post))).map V.int) ∧ (∀ d ∈ pre ++ (rowsB ts ++ post), d < 256) ∧ (∀ t ∈ ts, okR t) ∧ ts.length ≤ 1000 ∧ pre.length ≤ 100000 ∧ ex < 18 ∧ OutD (ts.map ptO) ex pre.length d ∧ ∀ v H', Ex H H' → Dp K H' v d → Q v H'
theorem ok_law_outcome (T : TX K mg) : FnOk P w K mg base CX0 4 T.a_law_outcome T.d_law_outcome ["data", "start", "stop"] (sp_lout K) := by
  refine T.F_law_outcome.ok sc_law_outcome (fun vs H Q E h => by obtain ⟨a, pre, post, ts, ex, d, rfl, _⟩ := h; rfl) (fun cdv A outer s0 H vs Q E hr h => ?_)
  obtain ⟨a, pre, post, ts, ex, d, rfl, hS, hb, hok, hl, hpl, hex, hd, k⟩ := h
  refine ⟨_, (pss_one (L2N.ps_try_as (i := 3) rfl rfl sc_law_outcome.nd rfl rfl ⟨rfl, by decide, .inl T.g_MonochordError⟩ takesN0 (fun W pn xe tk po => (pss_one (ps_ret (pe_tup (pa_cons pe_str (pa_cons (pe_callX (ok_read_seektable T) (hr.mono (by decide)) (by rfl) T.g_read_seektable T.F_read_seektable.kp T.b_read_seektable .nil (fun σ => L2N.passAt tk σ) (pa_cons (pv 0) (pa_cons (pv 1) (pa_cons (pv 2) pa_nil)))) pa_nil)))))) (fun a oe cls d pn hz hf => (pss_cons (ps_if (PW.pt (pw_or (pt_not (pt_val (L2H.pe_callH (okh_law_is_integer T) (roomH_suite hr (by decide)) (hot_of hz hf) (by rfl) T.g_law_is_integer T.F_law_is_integer.kp T.b_law_is_integer (fun _ => passH0) (pa_cons (pe_xfA hz.zc hf (pv 3)) pa_nil)))) (pw_or1 (pt_not (pt_val (pe_callB (call_isA hz.zc hf) (by rfl) T.m_isinstance PyProof.Rows.boot_isinstance (pa_cons (pv 3) (pa_cons (pe_bltn (v := V.ty "ValueError") (by rfl) T.m_ValueError (by decide +kernel) rfl) pa_nil)))))))) (pss_one (ps_ret (pe_tup (pa_cons pe_str pa_nil)))) pss_nil)
        (pss_one (ps_ret (pe_tup (pa_cons pe_str (pa_cons (pe_callB (call_isA hz.zc hf) (by rfl) T.m_isinstance PyProof.Rows.boot_isinstance (pa_cons (pv 3) (pa_cons (pe_glob (v := V.ref T.C_InvalidForm) (by rfl) T.g_InvalidForm rfl) pa_nil))) (pa_cons (pe_callB (call_isA hz.zc hf) (by rfl) T.m_isinstance PyProof.Rows.boot_isinstance (pa_cons (pv 3) (pa_cons (pe_glob (v := V.ref T.C_OutOfOrder) (by rfl) T.g_OutOfOrder rfl) pa_nil))) (pa_cons (pe_xfA hz.zc hf (pv 3)) pa_nil))))))))))), ?_⟩
  refine callX (sp := sp_rtab K T.C_InvalidForm T.C_OutOfOrder) (dvs := []) (args := [.ref a, .int (pre.length : Int), .int ((pre.length + 18 * ts.length + ex : Nat) : Int)]) (ta := tCons (tVar 0) (tCons (tVar 1) (tCons (tVar 2) tNil))) (ea_cons (ev_var rfl) (ea_cons (ev_var rfl) (ea_cons (ev_var rfl) ea_nil))) fun H1 e1 => ⟨a, pre, post, ts, ex, rfl, ex_l e1 hS, hb, hok, hl, hpl, hex, fun h0 H2 dd e2 he => ?_, fun h0 i h1 h2 h3 h4 H2 dd e2 he => ?_, fun h0 hg p L H2 hp e2 gp hP hL => ?_⟩
  · refine ⟨true, exm_su T.x_MonochordError T.su_InvalidForm_MonochordError, fun _ a0 ha0 => ?_, fun z => by cases z⟩
    refine q_when (b := false) (et_is (et_or (a := false) (b := false) (et_is (et_not (et_B (ev_isintH (ev_xfA (ev_var rfl) rfl T.x_InvalidForm.xf T.x_InvalidForm.nP rfl he rfl)))) rfl) fun _ => et_is (et_not (et_B (ev_isVE (ev_var rfl) rfl T.x_InvalidForm.ex rfl he (kitOne_VE T.sv_InvalidForm)))) rfl) rfl) (fun h => by cases h) fun _ H3 e3 => ?_
    have he3 := he.ex e3
    refine s_retU (xs := [.str "error", .bl true, .bl false, .int (pre.length : Int)]) (eu_tup (ea_cons ev_c (ea_cons (ev_isA (ev_var rfl) rfl T.x_InvalidForm.ex rfl he3 (kitOne_ref T.x_InvalidForm T.su_InvalidForm_InvalidForm T.su_InvalidForm_InvalidForm)) (ea_cons (ev_isA (ev_var rfl) rfl T.x_InvalidForm.ex rfl he3 (kitOne_ref T.x_OutOfOrder T.su_InvalidForm_OutOfOrder T.su_InvalidForm_InvalidForm)) (ea_cons (ev_xfA (ev_var rfl) rfl T.x_InvalidForm.xf T.x_InvalidForm.nP rfl he3 rfl) ea_nil)))) (Nat.le_of_ble_eq_true rfl)) fun t H4 ht e4 g4 => k _ H4 ((e1.trans e2).trans (e3.trans e4)) ?_
    rw [outD_uni hd (.inl ⟨h0, rfl⟩)]
    exact .tup (st_of g4) (.cons (.str _) (.cons (.bl _) (.cons (.bl _) (.cons (.int _) .nil))))
  · refine ⟨true, exm_su T.x_MonochordError T.su_OutOfOrder_MonochordError, fun _ a0 ha0 => ?_, fun z => by cases z⟩
    refine q_when (b := false) (et_is (et_or (a := false) (b := false) (et_is (et_not (et_B (ev_isintH (ev_xfA (ev_var rfl) rfl T.x_OutOfOrder.xf T.x_OutOfOrder.nP rfl he rfl)))) rfl) fun _ => et_is (et_not (et_B (ev_isVE (ev_var rfl) rfl T.x_OutOfOrder.ex rfl he (kitOne_VE T.sv_OutOfOrder)))) rfl) rfl) (fun h => by cases h) fun _ H3 e3 => ?_
    have he3 := he.ex e3
    refine s_retU (xs := [.str "error", .bl false, .bl true, .int ((pre.length + 18 * i : Nat) : Int)]) (eu_tup (ea_cons ev_c (ea_cons (ev_isA (ev_var rfl) rfl T.x_OutOfOrder.ex rfl he3 (kitOne_ref T.x_InvalidForm T.su_OutOfOrder_InvalidForm T.su_OutOfOrder_OutOfOrder)) (ea_cons (ev_isA (ev_var rfl) rfl T.x_OutOfOrder.ex rfl he3 (kitOne_ref T.x_OutOfOrder T.su_OutOfOrder_OutOfOrder T.su_OutOfOrder_OutOfOrder)) (ea_cons (ev_xfA (ev_var rfl) rfl T.x_OutOfOrder.xf T.x_OutOfOrder.nP rfl he3 rfl) ea_nil)))) (Nat.le_of_ble_eq_true rfl)) fun t H4 ht e4 g4 => k _ H4 ((e1.trans e2).trans (e3.trans e4)) ?_
    rw [outD_uni hd (.inr (.inl ⟨h0, i, h1, by rw [List.length_map]; exact h2, h3, h4, rfl⟩))]
    exact .tup (st_of g4) (.cons (.str _) (.cons (.bl _) (.cons (.bl _) (.cons (.int _) .nil))))
  · refine ⟨sz_of (Nat.le_of_ble_eq_true rfl), fun t ht => k _ _ ((e1.trans e2).trans (Ex.new ht)) ?_⟩
    rw [outD_uni hd (.inr (.inr ⟨h0, by rw [List.length_map]; exact hg, rfl⟩)), ← hL]
    exact .tup (st_of upd_same) (.cons (.str _) (.cons (.lst (sq_of (Ex.new ht _ _ gp)) (Pts.d (hP.ex (Ex.new ht)))) .nil))

/-! ### the law's rows -/
theorem wi_min2 {s : Addr} {σ : L2.St} {H : Hp} {ta tb : TE} {i : Int} {q : Int → Prop} (st : StAt H s) (ha : Ev ta σ H (.int i)) (hb : ∀ H1, Fr s H H1 → EvI s tb σ H1 q) : EvI s (tCB (fun xs H Q => ∃ i j, xs = [.int i, .int j] ∧ Q (.int (if j < i then j else i)) H) (tCons ta (tCons tb tNil))) σ H (fun z => ∃ j, q j ∧ z = if j < i then j else i) := fun Q k =>
  ha H (Ex.refl _) _ fun H1 e1 => hb H1 (Fr.ex st e1) _ fun j H2 f2 hj => ⟨i, j, rfl, k _ H2 ((Fr.ex st e1).trans f2) ⟨j, hj, rfl⟩⟩
def sp_lrow (K : PySem.W.Frag) : Sp := fun vs H Q _ => ∃ (s a : Addr) (ns : List Int) (bf : Nat), vs = [.ref s, .ref a, .int (bf : Int)] ∧ DrS K H s a ns ∧ bf ≤ 18446744073709551615 ∧ ∀ p (t : T3) H', H p = none → Fr s H H' → H' p = some (.tup (triV t)) → okR t → Q (.ref p) H'
theorem ok_law_row (T : TX K mg) : FnOk P w K mg base CX0 4 T.a_law_row T.d_law_row ["state", "script", "before"] (sp_lrow K) := by
  refine T.F_law_row.ok sc_law_row (fun vs H Q E h => by obtain ⟨s, a, ns, bf, rfl, _⟩ := h; rfl) (fun cdv A outer s0 H vs Q E hr h => ?_)
  obtain ⟨s, a, ns, bf, rfl, hd, hbf, k⟩ := h
  refine ⟨_, (pss_cons (ps_set (i := 3) sc_law_row.nd rfl (Or.inl rfl) (pe_call (ok_law_draw T) (hr.mono (by decide)) (by rfl) T.g_law_draw T.F_law_draw.kp T.b_law_draw .nil pass0 (pa_cons (pv 0) (pa_cons (pv 1) (pa_cons pe_int pa_nil)))))
      (pss_cons (ps_set (i := 4) sc_law_row.nd rfl (Or.inl rfl) (pe_op op_sub (pe_op op_shl pe_int pe_int) pe_int))
      (pss_cons (ps_if (pt_cmpR op_eq (pv 3) pe_int (nomark _)) (pss_one (ps_set (i := 4) sc_law_row.nd rfl (Or.inl rfl) (pv 2))) pss_nil)
      (pss_cut (ps_if (pt_cmpR op_ge (pv 3) pe_int (nomark _)) (pss_one (ps_set (i := 4) sc_law_row.nd rfl (Or.inl rfl) (pe_callB (call_min2 rfl) (by rfl) T.m_min PyProof.Rows.boot_min (pa_cons (pe_op op_sub (pe_op op_shl pe_int pe_int) pe_int) (pa_cons (pe_op op_add (pe_op op_add (pv 2) pe_int) (pe_call (ok_law_draw T) (hr.mono (by decide)) (by rfl) T.g_law_draw T.F_law_draw.kp T.b_law_draw .nil pass0 (pa_cons (pv 0) (pa_cons (pv 1) (pa_cons pe_int pa_nil))))) pa_nil))))) pss_nil)
      (pss_cut (ps_if (pt_cmpR op_eq (pv 3) pe_int (nomark _)) (pss_one (ps_set (i := 4) sc_law_row.nd rfl (Or.inl rfl) (pe_call (ok_law_wide T) (hr.mono (by decide)) (by rfl) T.g_law_wide T.F_law_wide.kp T.b_law_wide .nil pass0 (pa_cons (pv 0) (pa_cons (pv 1) (pa_cons (pe_op op_shl pe_int pe_int) pa_nil)))))) pss_nil)
      (pss_one (ps_ret (pe_tup (pa_cons (pv 4) (pa_cons (pe_call (ok_law_wide T) (hr.mono (by decide)) (by rfl) T.g_law_wide T.F_law_wide.kp T.b_law_wide .nil pass0 (pa_cons (pv 0) (pa_cons (pv 1) (pa_cons (pe_op op_shl pe_int pe_int) pa_nil)))) (pa_cons (pe_call (ok_law_draw T) (hr.mono (by decide)) (by rfl) T.g_law_draw T.F_law_draw.kp T.b_law_draw .nil pass0 (pa_cons (pv 0) (pa_cons (pv 1) (pa_cons pe_int pa_nil)))) pa_nil))))))))))), ?_⟩
  have hmx : (1 * 2 ^ (64 : Int).toNat - 1 : Int) = ((18446744073709551615 : Nat) : Int) := by decide
  refine qw_asg (wi_draw hd rfl rfl ev_c (by decide) (by decide)) fun z H1 f1 hz => ?_
  obtain ⟨kd, rfl, hkd⟩ := hz
  refine q_asg (v := .int ((18446744073709551615 : Nat) : Int)) (Ev.is (ev_I0 (ev_I ev_c ev_c ⟨by decide, by decide, by decide⟩) ev_c) (congrArg V.int hmx)) fun H2 e2 => ?_
  obtain ⟨s1, hs1, hs1l⟩ : ∃ s1 : Nat, (if kd = 1 then bf else 18446744073709551615) = s1 ∧ s1 ≤ 18446744073709551615 := ⟨_, rfl, by split <;> omega⟩
  refine q_ifAsg (b := decide (kd = 1)) (v := .int (s1 : Int)) (et_is (et_test (ev_eq (ev_var rfl) ev_c rfl)) (decide_eq_decide.mpr ⟨fun h => by have := V.int.inj h; omega, fun h => by rw [h]; rfl⟩)) (fun h => Ev.is (ev_var rfl) (by rw [← hs1, if_pos (of_decide_eq_true h)])) (fun h => by rw [← hs1, if_neg (of_decide_eq_false h)]; rfl) fun H3 e3 => ?_
  have f3 := f1.tex (e2.trans e3)
  refine q_cut (M := fun σ' H' => ∃ s2 : Nat, s2 ≤ 18446744073709551615 ∧ σ' = [some (.ref s), some (.ref a), some (.int (bf : Int)), some (.int (kd : Int)), some (.int (s2 : Int))] ∧ Fr s H H') ?_ ?_
  · refine s_when (et_test (ev_I0 (ev_var rfl) ev_c)) (fun _ H4 e4 => ?_) (fun _ H4 e4 => ⟨s1, hs1l, rfl, f3.tex e4⟩)
    have f4 := f3.tex e4
    refine sw_asg (wi_min2 f4.2 (Ev.is (ev_I0 (ev_I ev_c ev_c ⟨by decide, by decide, by decide⟩) ev_c) (congrArg V.int hmx)) fun H5 f5 => wi_op (wi_ev f5.2 (ev_I0 (ev_var rfl) ev_c)) fun H6 f6 => wi_draw (hd.fr ((f4.trans f5).trans f6)) rfl rfl ev_c (by decide) (by decide)) fun z H5 f5 hz => ?_
    obtain ⟨j, ⟨x, y, hx, ⟨d, hy, hdn⟩, hj⟩, hz⟩ := hz
    refine ⟨if bf + 1 + d < 18446744073709551615 then bf + 1 + d else 18446744073709551615, by split <;> omega, ?_, f4.trans f5⟩
    refine congrArg (fun z : Int => ([some (.ref s), some (.ref a), some (.int (bf : Int)), some (.int (kd : Int)), some (.int z)] : L2.St)) ?_
    rw [hz, hj, hx, hy]
    by_cases h : bf + 1 + d < 18446744073709551615
    · rw [if_pos h, if_pos (by omega), show (bf : Int) + 1 + (d : Int) = ((bf + 1 + d : Nat) : Int) by omega]
    · rw [if_neg h, if_neg (by omega)]
  rintro σ' H4 ⟨s2, hs2, rfl, f4⟩
  refine q_cut (M := fun σ' H' => ∃ s2 : Nat, s2 ≤ 18446744073709551615 ∧ σ' = [some (.ref s), some (.ref a), some (.int (bf : Int)), some (.int (kd : Int)), some (.int (s2 : Int))] ∧ Fr s H H') ?_ ?_
  · refine s_when (et_test (ev_eq (ev_var rfl) ev_c rfl)) (fun _ H5 e5 => ?_) (fun _ H5 e5 => ⟨s2, hs2, rfl, f4.tex e5⟩)
    have f5 := f4.tex e5
    refine sw_asg (wi_draw (n := 18446744073709551616) (hd.fr f5) rfl rfl (ev_I ev_c ev_c ⟨by decide, by decide, by decide⟩) (by decide) (by decide)) fun z H6 f6 hz => ?_
    obtain ⟨d, rfl, hdn⟩ := hz
    exact ⟨d, by omega, rfl, f5.trans f6⟩
  rintro σ' H5 ⟨s3, hs3, rfl, f5⟩
  refine ⟨_, rfl, wi_draw (n := 18446744073709551616) (hd.fr f5) rfl rfl (ev_I ev_c ev_c ⟨by decide, by decide, by decide⟩) (by decide) (by decide) _ fun z1 H6 f6 hz1 => wi_draw (hd.fr (f5.trans f6)) rfl rfl ev_c (by decide) (by decide) _ fun z2 H7 f7 hz2 => ?_⟩
  obtain ⟨off, rfl, ho⟩ := hz1
  obtain ⟨cnt, rfl, hc⟩ := hz2
  have f57 := f5.trans (f6.trans f7)
  exact ⟨sz_of (show 3 ≤ 100000 by decide), fun t ht => k t (s3, off, cnt) _ (f57.fresh ht) (f57.tex (Ex.new ht)) upd_same ⟨hs3, by show off < _; omega, by show cnt < _; omega⟩⟩
/-! ### what is expected -/
def sp_lexp (K : PySem.W.Frag) : Sp := fun vs H Q _ => ∃ (b : Addr) (ps : List Addr) (ts : List T3) (ex st : Nat) (d : PyData), vs = [.ref b, .int (ex : Int), .int (st : Int)] ∧ H b = some (.lst (ps.map V.ref)) ∧ TupsAt H ps ts ∧ ts.length ≤ 1000 ∧ OutD (ts.map ptO) ex st d ∧ ∀ v H', Ex H H' → Dp K H' v d → Q v H'
theorem ok_law_expected (T : TX K mg) : FnOk P w K mg base CX0 1 T.a_law_expected T.d_law_expected ["rows", "extra", "start"] (sp_lexp K) := by
  refine T.F_law_expected.ok sc_law_expected (fun vs H Q E h => by obtain ⟨b, ps, ts, ex, st, d, rfl, _⟩ := h; rfl) (fun cdv A outer s0 H vs Q E hr h => ?_)
  obtain ⟨b, ps, ts, ex, st, d, rfl, hb, hT, hl, hd, k⟩ := h
  refine ⟨_, (pss_cons (ps_if (pt_cmpR op_gt (pv 1) pe_int (nomark _)) (pss_one (ps_ret (pe_tup (pa_cons pe_str (pa_cons pe_bl (pa_cons pe_bl (pa_cons (pv 2) pa_nil))))))) pss_nil)
      (pss_cons (ps_set (i := 3) sc_law_expected.nd rfl (Or.inl rfl) (pe_lst pa_nil))
      (pss_cons (ps_for PassesOwn.never rfl (pi_range1 (by rfl) T.m_range (pa_cons (pe_callB (r := rLenS K) call_len_seq (by rfl) T.m_len PySem.boot_len (pa_cons (pv 0) pa_nil)) pa_nil)) (pg_name (i := 4) sc_law_expected.nd rfl (Or.inl rfl)) (pss_cons (ps_set (i := 5) sc_law_expected.nd rfl (Or.inl rfl) (pe_ix (r := rIxL K) ix_list (pv 0) (pv 4) (fun _ _ => rfl)))
        (pss_cons (ps_if (pt_cmpR op_eq (pe_ix (r := rIxT K) ix_tup (pe_ix (r := rIxL K) ix_list (pv 0) (pv 4) (fun _ _ => rfl)) pe_int (fun _ _ => rfl)) (pe_op op_sub (pe_op op_shl pe_int pe_int) pe_int) (nomark _)) (pss_one (ps_set (i := 5) sc_law_expected.nd rfl (Or.inl rfl) pe_non)) pss_nil)
        (pss_cut (ps_if (PW.pt (pw_and (pt_cmpR op_gt (pv 4) pe_int (nomark _)) (pw_and1 (pt_cmpR op_notN1 (pv 5) pe_non (nomark _))))) (pss_one (ps_if (PW.pt (pw_or (pt_cmpR op_isN1 (pe_ix (r := rIxL K) ix_list (pv 3) (pe_op op_sub (pv 4) pe_int) (fun _ _ => rfl)) pe_non (nomark _)) (pw_or1 (pt_cmpR op_le (pe_ix (r := rIxT K) ix_tup (pv 5) pe_int (fun _ _ => rfl)) (pe_ix (r := rIxT K) ix_tup (pe_ix (r := rIxL K) ix_list (pv 3) (pe_op op_sub (pv 4) pe_int) (fun _ _ => rfl)) pe_int (fun _ _ => rfl)) (nomark _))))) (pss_one (ps_ret (pe_tup (pa_cons pe_str (pa_cons pe_bl (pa_cons pe_bl (pa_cons (pe_op op_add (pv 2) (pe_op op_mul pe_int (pv 4))) pa_nil))))))) pss_nil)) pss_nil)
        (pss_one (ps_expr (pe_bm PySem.F.plainAttrs_list PySem.F.slot_list_append PySem.F.type_list_append mt_append (pv 3) (pa_cons (pv 5) pa_nil))))))))
      (pss_one (ps_ret (pe_tup (pa_cons pe_str (pa_cons (pv 3) pa_nil)))))))), ?_⟩
  have hmx : (1 * 2 ^ (64 : Int).toNat - 1 : Int) = ((18446744073709551615 : Nat) : Int) := by decide
  have hpl := hT.len
  refine q_when (b := decide (0 < ex)) (et_is (et_test (ev_I0 (ev_var rfl) ev_c)) (decide_eq_decide.mpr (by omega))) (fun h H1 e1 => ?_) fun h H1 e1 => ?_
  · refine s_retU (xs := [.str "error", .bl true, .bl false, .int (st : Int)]) (eu_tup (ea_cons ev_c (ea_cons ev_c (ea_cons ev_c (ea_cons (ev_var rfl) ea_nil)))) (Nat.le_of_ble_eq_true rfl)) fun t H2 ht e2 g2 => k _ H2 (e1.trans e2) ?_
    rw [outD_uni hd (.inl ⟨of_decide_eq_true h, rfl⟩)]
    exact .tup (st_of g2) (.cons (.str _) (.cons (.bl _) (.cons (.bl _) (.cons (.int _) .nil))))
  have h := of_decide_eq_false h
  obtain rfl : ex = 0 := by omega
  obtain ⟨os, hos⟩ : ∃ os : List (Option T3), ts.map ptO = os := ⟨_, rfl⟩
  rw [hos] at hd
  have hol : os.length = ts.length := by rw [← hos, List.length_map]
  refine q_asgL (xs := []) (el_lst ea_nil (by decide)) fun q H2 hq2 e2 g2 => ?_
  have hq := fresh_back e1 hq2
  refine q_forR1 (n := (ts.length : Int)) (ea_cons (Ev.is (ev_lenS (Ev.s (ev_var rfl) (sq_of ((e1.trans e2) _ _ hb)))) (by rw [List.length_map, hpl])) ea_nil) (by omega) (fun i σ' H' => ∃ (M : List (V × Option T3)) (z4 z5 : Option V), σ' = [some (.ref b), some (.int ((0 : Nat) : Int)), some (.int (st : Int)), some (.ref q), z4, z5] ∧ Ex H H' ∧ H' q = some (.lst (M.map (·.1))) ∧ Pts H' M ∧ M.map (·.2) = os.take i ∧ goodT os i) (fun H3 e3 => ⟨[], none, none, rfl, e1.trans (e2.trans e3), e3 _ _ g2, (fun x hx => by cases hx), rfl, fun k h1 h2 => absurd h2 (Nat.not_lt_zero k)⟩) ?_ ?_
  · rintro i σ' H3 hi ⟨M, z4, z5, rfl, exx, gq, hP, hM, hgd⟩
    have hi : i < ts.length := by omega
    have hp : ps[i]? = some ps[i] := List.getElem?_eq_getElem (by omega)
    obtain ⟨pi, hpe⟩ : ∃ p, ps[i] = p := ⟨_, rfl⟩
    rw [hpe] at hp
    obtain ⟨t, ht, htp⟩ := hT.get i pi hp
    have ho : os[i]? = some (ptO t) := by rw [← hos, List.getElem?_map, ht]; rfl
    have hMl : M.length = i := by have := congrArg List.length hM; rw [List.length_map, List.length_take] at this; omega
    have ix : ∀ {σ : L2.St} {H4 : Hp}, σ[0]? = some (some (.ref b)) → σ[4]? = some (some (.int (i : Int))) → Ex H H4 → Ev (tOp (rIxL K) (tVar 0) (tVar 4)) σ H4 (.ref pi) := fun h0 h4 e4 => ev_ixS (i := 0) (Ev.s (ev_var h0) (sq_of (e4 _ _ hb))) (ev_var h4) (at_of (j := i) rfl (at_ref hp))
    refine q_asg (v := .ref pi) (ix rfl rfl exx) fun H4 e4 => ?_
    obtain ⟨v, hv, hvn⟩ : ∃ v, (if t.1 = 18446744073709551615 then V.non else V.ref pi) = v ∧ (v = V.non → ptO t = none) ∧ (v ≠ V.non → ptO t = some t ∧ v = V.ref pi) ∧ ∀ H', H' pi = some (.tup (triV t)) → PtAt H' (v, ptO t) := by
      unfold ptO
      by_cases hc : t.1 = 18446744073709551615
      · rw [if_pos hc, if_pos hc]
        exact ⟨_, rfl, fun _ => rfl, fun h => absurd rfl h, fun H' _ => rfl⟩
      · rw [if_neg hc, if_neg hc]
        exact ⟨_, rfl, (fun h => by cases h), fun _ => ⟨rfl, rfl⟩, fun H' h => ⟨pi, rfl, h⟩⟩
    obtain ⟨hv0, hv1, hv2⟩ := hvn
    refine q_ifAsg (b := decide (t.1 = 18446744073709551615)) (v := v) (et_is (et_test (ev_eq (ev_atT (n := 0) (v := .int (t.1 : Int)) (ix rfl rfl (exx.trans e4)) (st_of ((exx.trans e4) _ _ htp)) ev_c (at_of (j := 0) rfl rfl)) (Ev.is (ev_I0 (ev_I ev_c ev_c ⟨by decide, by decide, by decide⟩) ev_c) (congrArg V.int hmx)) rfl)) (decide_eq_decide.mpr ⟨fun h => by have := V.int.inj h; omega, fun h => by rw [h]⟩)) (fun h => Ev.is ev_c (by rw [← hv, if_pos (of_decide_eq_true h)])) (fun h => by rw [← hv, if_neg (of_decide_eq_false h)]; rfl) fun H5 e5 => ?_
    have e35 := e4.trans e5
    refine q_cut (M := fun σ' H' => σ' = [some (.ref b), some (.int ((0 : Nat) : Int)), some (.int (st : Int)), some (.ref q), some (.int (i : Int)), some v] ∧ Ex H3 H' ∧ goodT os (i + 1)) ?_ ?_
    · refine s_when (b := decide (0 < i) && !decide (v = .non)) (et_and (a := decide (0 < i)) (et_is (et_test (ev_I0 (ev_var rfl) ev_c)) (decide_eq_decide.mpr (by omega))) fun _ => et_test (ev_notN (ev_var rfl))) (fun hbt H6 e6 => ?_) (fun hbf H6 e6 => ⟨rfl, e35.trans e6, goodT_succ hgd fun h0 ⟨x, y, hx, hy, hxy⟩ => ?_⟩)
      · rw [Bool.and_eq_true, decide_eq_true_iff] at hbt
        have h0 := hbt.1
        obtain ⟨hpt, rfl⟩ := hv1 (fun z => by rw [z] at hbt; cases hbt.2)
        have hx : M[i - 1]? = some M[i - 1] := List.getElem?_eq_getElem (by omega)
        have hsx := snd_at hx
        rw [hM, List.getElem?_take, if_pos (by omega)] at hsx
        have hPx := (hP.at hx).ex (e35.trans e6)
        have gx : ∀ {σ : L2.St} {H7 : Hp}, σ[3]? = some (some (.ref q)) → σ[4]? = some (some (.int (i : Int))) → Ex H3 H7 → Ev (tOp (rIxL K) (tVar 3) (tOp (rI0 fun i j => .int (i - j)) (tVar 4) (tC (.int 1)))) σ H7 (M[i - 1]).1 := fun h3 h4 e7 => ev_ptI (Ev.s (ev_var h3) (sq_of (e7 _ _ gq))) (ev_I0 (ev_var h4) ev_c) (by omega) hx
        generalize M[i - 1] = x at *
        obtain ⟨u, o⟩ := x
        have fault : ∀ H7, Ex H H7 → mayF o (ptO t) = false → tRet (tTup (tCons (tC (.str "error")) (tCons (tC (.bl false)) (tCons (tC (.bl true)) (tCons (tOp (rI0 fun i j => .int (i + j)) (tVar 2) (tOp (rI CMul fun i j => .int (i * j)) (tC (.int 18)) (tVar 4))) tNil))))) { nx := fun _ _ => True, rt := Q } [some (.ref b), some (.int ((0 : Nat) : Int)), some (.int (st : Int)), some (.ref q), some (.int (i : Int)), some (.ref pi)] H7 := fun H7 e7 hm => by
          refine s_retU (xs := [.str "error", .bl false, .bl true, .int ((st + 18 * i : Nat) : Int)]) (eu_tup (ea_cons ev_c (ea_cons ev_c (ea_cons ev_c (ea_cons (Ev.is (ev_I0 (ev_var rfl) (ev_I ev_c (ev_var rfl) (.inl (by decide)))) (congrArg V.int (by omega))) ea_nil)))) (Nat.le_of_ble_eq_true rfl)) fun r H8 hr e8 g8 => k _ H8 (e7.trans e8) ?_
          rw [outD_uni hd (.inr (.inl ⟨rfl, i, h0, by omega, hgd, ⟨o, ptO t, hsx, ho, hm⟩, rfl⟩))]
          exact .tup (st_of g8) (.cons (.str _) (.cons (.bl _) (.cons (.bl _) (.cons (.int _) .nil))))
        have htp6 := (exx.trans (e35.trans e6)) _ _ htp
        cases o with
        | none =>
          obtain rfl : u = .non := hPx
          exact s_when (b := true) (et_is (et_or (a := true) (b := false) (et_is (et_test (ev_isN (gx rfl rfl (e35.trans e6)))) (decide_eq_true rfl)) fun h => by cases h) rfl) (fun _ H7 e7 => fault H7 (exx.trans ((e35.trans e6).trans e7)) (by rw [hpt]; rfl)) (fun h => by cases h)
        | some r =>
          obtain ⟨pr, rfl, hpr⟩ := hPx
          refine s_when (b := decide (t.1 ≤ r.1)) (et_is (et_or (a := false) (b := decide (t.1 ≤ r.1)) (et_is (et_test (ev_isN (gx rfl rfl (e35.trans e6)))) (decide_eq_false fun h => by cases h)) fun _ => et_is (et_test (ev_I0 (ev_atT (n := 0) (v := .int (t.1 : Int)) (ev_var rfl) (st_of htp6) ev_c (at_of (j := 0) rfl rfl)) (ev_atT (n := 0) (v := .int (r.1 : Int)) (gx rfl rfl (e35.trans e6)) (st_of hpr) ev_c (at_of (j := 0) rfl rfl)))) (decide_eq_decide.mpr (by omega))) (by rw [Bool.false_or])) (fun h H7 e7 => ?_) (fun h H7 e7 => ?_)
          · have h := of_decide_eq_true h
            exact fault H7 (exx.trans ((e35.trans e6).trans e7)) (by rw [hpt]; exact decide_eq_false (by omega))
          · have h := of_decide_eq_false h
            refine ⟨rfl, (e35.trans e6).trans e7, goodT_succ hgd fun _ ⟨x, y, hx, hy, hxy⟩ => ?_⟩
            rw [hsx] at hx
            rw [ho, hpt] at hy
            cases hx
            cases hy
            rw [show mayF (some r) (some t) = decide (r.1 < t.1) from rfl, decide_eq_true (by omega)] at hxy
            cases hxy
      · rw [ho] at hy
        cases hy
        rw [decide_eq_true h0, Bool.true_and] at hbf
        rw [hv0 (by
          by_cases z : v = .non
          · exact z
          · rw [decide_eq_false z] at hbf
            cases hbf)] at hxy
        cases hxy
    rintro σ' H6 ⟨rfl, e6, hgd2⟩
    have hv6 := hv2 H6 ((exx.trans e6) _ _ htp)
    refine s_app (v := v) (e6 _ _ gq) (ev_var rfl) (ev_var rfl) (by rw [List.length_map]; omega) fun H7 e7 => ⟨M ++ [(v, ptO t)], _, _, rfl, Ex.mut (exx.trans (e6.trans e7)) hq, by rw [upd_same, List.map_append]; rfl, ((hP.ex (e6.trans e7)).snoc (hv6.ex e7)).updL ((e6.trans e7) _ _ gq), ?_, hgd2⟩
    rw [List.map_append, hM, show os.take (i + 1) = os.take i ++ [ptO t] from by rw [List.take_add_one, ho]; rfl]
    rfl
  · rintro σ' H3 ⟨M, z4, z5, rfl, exx, gq, hP, hM, hgd⟩
    rw [Int.toNat_natCast, ← hol] at hgd
    rw [Int.toNat_natCast, ← hol, List.take_length] at hM
    refine s_retU (xs := [.str "points", .ref q]) (eu_tup (ea_cons ev_c (ea_cons (ev_var rfl) ea_nil)) (Nat.le_of_ble_eq_true rfl)) fun t H4 ht e4 g4 => k _ H4 (exx.trans e4) ?_
    rw [outD_uni hd (.inr (.inr ⟨rfl, hgd, rfl⟩)), ← hM]
    exact .tup (st_of g4) (.cons (.str _) (.cons (.lst (sq_of (e4 _ _ gq)) (Pts.d (hP.ex e4))) .nil))

/-! ### the law -/
theorem wl_catR {s l : Addr} {σ : L2.St} {H : Hp} {ta tb : TE} {P : List V → Prop} {xs : List V} (st : StAt H s) (ha : Ev ta σ H (.ref l)) (hls : l ≠ s) (hx : H l = some (.lst xs)) (hb : ∀ H1, Fr s H H1 → EvLW s tb σ H1 P) (hl : ∀ ys, P ys → xs.length + ys.length ≤ 100000) : EvLW s (tOp rCat ta tb) σ H (fun zs => ∃ ys, P ys ∧ zs = xs ++ ys) := fun Q k =>
  ha H (Ex.refl _) _ fun H1 e1 => hb H1 (Fr.ex st e1) _ fun r ys H2 hr f2 g2 hy => ⟨l, r, xs, ys, rfl, rfl, f2.l hls (e1 _ _ hx), g2, sz_of (hl ys hy), fun q hq => by
    have f02 : Fr s H H2 := (Fr.ex st e1).trans f2
    exact k q _ _ (f02.fresh hq) (f02.tex (Ex.new hq)) upd_same ⟨ys, hy, rfl⟩⟩
theorem wl_rep {s : Addr} {σ : L2.St} {H : Hp} {ta tb : TE} {x : V} {p : Int → Prop} (st : StAt H s) (ha : EvL ta σ H [x]) (hb : ∀ H1, Fr s H H1 → EvI s tb σ H1 p) (hp : ∀ z, p z → 0 ≤ z ∧ z ≤ 1000) : EvLW s (tOp rRep ta tb) σ H (fun ys => ∃ n : Nat, p (n : Int) ∧ n ≤ 1000 ∧ ys = List.replicate n x) := fun Q k =>
  ha H (Ex.refl _) _ fun q H1 hq e1 g1 => hb H1 (Fr.ex st e1) _ fun i H2 f2 hi => ⟨q, i, [x], rfl, rfl, f2.l (ne_st st hq) g1, by have := hp i hi; omega, by have := hp i hi; omega, sz_of (by have := hp i hi; show 1 * i.toNat ≤ 100000; omega), fun l hl => by
    have h2 := hp i hi
    have f02 : Fr s H H2 := (Fr.ex st e1).trans f2
    exact k l _ _ (f02.fresh hl) (f02.tex (Ex.new hl)) upd_same ⟨i.toNat, by rw [Int.toNat_of_nonneg h2.1]; exact hi, by omega, rep_one _⟩⟩
theorem cs_rep (n x : Nat) : List.replicate n (V.int (x : Int)) = (cs (List.replicate n x)).map V.int := by
  unfold cs
  rw [List.map_replicate, List.map_replicate]
theorem ed_lout {σ : L2.St} {H : Hp} {t1 t2 t3 : TE} {E : XK} {a : Addr} {pre post : List Nat} {ts : List T3} {ex : Nat} {d : PyData} {i j : Int} (h1 : Ev t1 σ H (.ref a)) (h2 : Ev t2 σ H (.int i)) (h3 : Ev t3 σ H (.int j)) (hi : i = (pre.length : Int)) (hj : j = ((pre.length + 18 * ts.length + ex : Nat) : Int)) (hS : SqL K H a ((cs (pre ++ (rowsB ts ++ post))).map V.int)) (hb : ∀ d ∈ pre ++ (rowsB ts ++ post), d < 256) (hok : ∀ t ∈ ts, okR t) (hl : ts.length ≤ 1000) (hp : pre.length ≤ 100000) (hex : ex < 18) (hd : OutD (ts.map ptO) ex pre.length d) : EvD K (tCall (sp_lout K) [] E (tCons t1 (tCons t2 (tCons t3 tNil)))) σ H d := fun H1 e Q q =>
  (ea_cons h1 (ea_cons h2 (ea_cons h3 ea_nil))) H1 e _ fun H2 e2 => ⟨a, pre, post, ts, ex, d, by rw [hi, hj]; rfl, ex_l (e.trans e2) hS, hb, hok, hl, hp, hex, hd, fun v H3 e3 hv => q v H3 (e2.trans e3) hv⟩
theorem ed_lexp {σ : L2.St} {H : Hp} {t1 t2 t3 : TE} {E : XK} {b : Addr} {ps : List Addr} {ts : List T3} {ex st : Nat} {d : PyData} (h1 : Ev t1 σ H (.ref b)) (h2 : Ev t2 σ H (.int (ex : Int))) (h3 : Ev t3 σ H (.int (st : Int))) (hb : H b = some (.lst (ps.map V.ref))) (hT : TupsAt H ps ts) (hl : ts.length ≤ 1000) (hd : OutD (ts.map ptO) ex st d) : EvD K (tCall (sp_lexp K) [] E (tCons t1 (tCons t2 (tCons t3 tNil)))) σ H d := fun H1 e Q q =>
  (ea_cons h1 (ea_cons h2 (ea_cons h3 ea_nil))) H1 e _ fun H2 e2 => ⟨b, ps, ts, ex, st, d, rfl, (e.trans e2) _ _ hb, hT.ex (e.trans e2), hl, hd, fun v H3 e3 hv => q v H3 (e2.trans e3) hv⟩
def sp_law (K : PySem.W.Frag) : Sp := fun vs H Q _ => ∃ (a : Addr) (ns : List Int), vs = [.ref a] ∧ SqL K H a (ns.map V.int) ∧ ns.length ≤ 63 ∧ ∀ H', Q (.bl true) H'
theorem ok_law (T : TX K mg) : FnOk P w K mg base CX0 5 T.a_law T.d_law ["script"] (sp_law K) := by
  refine T.F_law.ok sc_law (fun vs H Q E h => by obtain ⟨a, ns, rfl, _⟩ := h; rfl) (fun cdv A outer s0 H vs Q E hr h => ?_)
  obtain ⟨a, ns, rfl, hS, hlen, k⟩ := h
  refine ⟨_, (pss_cons (ps_set (i := 1) sc_law.nd rfl (Or.inl rfl) (pe_lst (pa_cons pe_int (pa_cons pe_int pa_nil))))
      (pss_cons (ps_set (i := 2) sc_law.nd rfl (Or.inl rfl) (pe_lst pa_nil))
      (pss_cons (ps_set (i := 3) sc_law.nd rfl (Or.inl rfl) (pe_lst pa_nil))
      (pss_cons (ps_set (i := 4) sc_law.nd rfl (Or.inl rfl) (pe_call (ok_law_draw T) (hr.mono (by decide)) (by rfl) T.g_law_draw T.F_law_draw.kp T.b_law_draw .nil pass0 (pa_cons (pv 1) (pa_cons (pv 0) (pa_cons pe_int pa_nil)))))
      (pss_cons (ps_for PassesOwn.never rfl (pi_range1 (by rfl) T.m_range (pa_cons (pe_call (ok_law_draw T) (hr.mono (by decide)) (by rfl) T.g_law_draw T.F_law_draw.kp T.b_law_draw .nil pass0 (pa_cons (pv 1) (pa_cons (pv 0) (pa_cons pe_int pa_nil)))) pa_nil)) (pg_name (i := 5) sc_law.nd rfl (Or.inl rfl)) (pss_cons (ps_set (i := 6) sc_law.nd rfl (Or.inl rfl) (pe_call (ok_law_row T) (hr.mono (by decide)) (by rfl) T.g_law_row T.F_law_row.kp T.b_law_row .nil pass0 (pa_cons (pv 1) (pa_cons (pv 0) (pa_cons (pv 4) pa_nil)))))
        (pss_cons (ps_expr (pe_bm PySem.F.plainAttrs_list PySem.F.slot_list_append PySem.F.type_list_append mt_append (pv 2) (pa_cons (pv 6) pa_nil)))
        (pss_cons (ps_set (i := 4) sc_law.nd rfl (Or.inl rfl) (pe_ix (r := rIxT K) ix_tup (pv 6) pe_int (fun _ _ => rfl)))
        (pss_one (ps_set (i := 3) sc_law.nd rfl (Or.inl rfl) (pe_op op_cat (pe_op op_cat (pe_op op_cat (pv 3) (pe_call (ok_law_number_bytes T) (hr.mono (by decide)) (by rfl) T.g_law_number_bytes T.F_law_number_bytes.kp T.b_law_number_bytes .nil pass0 (pa_cons (pe_ix (r := rIxT K) ix_tup (pv 6) pe_int (fun _ _ => rfl)) (pa_cons pe_int pa_nil)))) (pe_call (ok_law_number_bytes T) (hr.mono (by decide)) (by rfl) T.g_law_number_bytes T.F_law_number_bytes.kp T.b_law_number_bytes .nil pass0 (pa_cons (pe_ix (r := rIxT K) ix_tup (pv 6) pe_int (fun _ _ => rfl)) (pa_cons pe_int pa_nil)))) (pe_call (ok_law_number_bytes T) (hr.mono (by decide)) (by rfl) T.g_law_number_bytes T.F_law_number_bytes.kp T.b_law_number_bytes .nil pass0 (pa_cons (pe_ix (r := rIxT K) ix_tup (pv 6) pe_int (fun _ _ => rfl)) (pa_cons pe_int pa_nil))))))))))
      (pss_cons (ps_set (i := 7) sc_law.nd rfl (Or.inl rfl) pe_int)
      (pss_cut (ps_if (pt_cmpR op_eq (pe_call (ok_law_draw T) (hr.mono (by decide)) (by rfl) T.g_law_draw T.F_law_draw.kp T.b_law_draw .nil pass0 (pa_cons (pv 1) (pa_cons (pv 0) (pa_cons pe_int pa_nil)))) pe_int (nomark _)) (pss_one (ps_set (i := 7) sc_law.nd rfl (Or.inl rfl) (pe_op op_add pe_int (pe_call (ok_law_draw T) (hr.mono (by decide)) (by rfl) T.g_law_draw T.F_law_draw.kp T.b_law_draw .nil pass0 (pa_cons (pv 1) (pa_cons (pv 0) (pa_cons pe_int pa_nil))))))) pss_nil)
      (pss_cons (ps_set (i := 3) sc_law.nd rfl (Or.inl rfl) (pe_op op_cat (pv 3) (pe_call (ok_law_junk T) (hr.mono (by decide)) (by rfl) T.g_law_junk T.F_law_junk.kp T.b_law_junk .nil pass0 (pa_cons (pv 1) (pa_cons (pv 0) (pa_cons (pv 7) pa_nil))))))
      (pss_cons (ps_set (i := 8) sc_law.nd rfl (Or.inl rfl) (pe_call (ok_law_draw T) (hr.mono (by decide)) (by rfl) T.g_law_draw T.F_law_draw.kp T.b_law_draw .nil pass0 (pa_cons (pv 1) (pa_cons (pv 0) (pa_cons pe_int pa_nil)))))
      (pss_cons (ps_set (i := 9) sc_law.nd rfl (Or.inl rfl) (pe_op op_cat (pe_op op_cat (pe_op op_rep (pe_lst (pa_cons pe_int pa_nil)) (pv 8)) (pv 3)) (pe_op op_rep (pe_lst (pa_cons pe_int pa_nil)) (pe_call (ok_law_draw T) (hr.mono (by decide)) (by rfl) T.g_law_draw T.F_law_draw.kp T.b_law_draw .nil pass0 (pa_cons (pv 1) (pa_cons (pv 0) (pa_cons pe_int pa_nil)))))))
      (pss_one (ps_ret (pe_cmpR (op_eqD (hu64 hr)) (pe_call (ok_law_outcome T) (hr.mono (by decide)) (by rfl) T.g_law_outcome T.F_law_outcome.kp T.b_law_outcome .nil pass0 (pa_cons (pv 9) (pa_cons (pv 8) (pa_cons (pe_op op_add (pv 8) (pe_callB (r := rLenS K) call_len_seq (by rfl) T.m_len PySem.boot_len (pa_cons (pv 3) pa_nil))) pa_nil)))) (pe_call (ok_law_expected T) (hr.mono (by decide)) (by rfl) T.g_law_expected T.F_law_expected.kp T.b_law_expected .nil pass0 (pa_cons (pv 2) (pa_cons (pv 7) (pa_cons (pv 8) pa_nil)))) (nomark _)))))))))))))), ?_⟩
  refine q_asgL (xs := [.int 0, .int 0]) (el_lst (ea_cons ev_c (ea_cons ev_c ea_nil)) (by decide)) fun s B hs e1 g1 => ?_
  have hd : DrS K B s a ns := ⟨⟨0, 0, g1⟩, scr_mk hs e1 hS⟩
  clear g1 e1 hS
  refine q_asgL (xs := []) (el_lst ea_nil (by decide)) fun pr H1 hpr e1 g1 => ?_
  have hprs := ne_st hd.1 hpr
  refine q_asgL (xs := []) (el_lst ea_nil (by decide)) fun q0 H2 hq0 e2 g2 => ?_
  have f2 := Fr.ex hd.1 (e1.trans e2)
  have hq0B : B q0 = none := fresh_back e1 hq0
  have hq0r : q0 ≠ pr := (ne_of_none g1 hq0).symm
  have g12 := e2 _ _ g1
  refine qw_asg (wi_draw (hd.fr f2) rfl rfl ev_c (by decide) (by decide)) fun z H3 f3 hz => ?_
  obtain ⟨bf0, rfl, hbf0⟩ := hz
  have f23 := f2.trans f3
  refine qw_forR1 (wi_draw (hd.fr f23) rfl rfl ev_c (by decide) (by decide)) (fun i hi => by obtain ⟨d, rfl, h⟩ := hi; omega) (fun n i σ' H' => ∃ (q : Addr) (bf : Nat) (ps : List Addr) (ts : List T3) (z5 z6 : Option V), σ' = [some (.ref a), some (.ref s), some (.ref pr), some (.ref q), some (.int (bf : Int)), z5, z6, none, none, none] ∧ Fr s B H' ∧ B q = none ∧ q ≠ pr ∧ H' pr = some (.lst (ps.map V.ref)) ∧ TupsAt H' ps ts ∧ (∀ t ∈ ts, okR t) ∧ ts.length = i ∧ bf ≤ 18446744073709551615 ∧ H' q = some (.lst ((cs (rowsB ts)).map V.int))) ?_ ?_ ?_
  · rintro n H4 hn f4
    exact ⟨q0, bf0, [], [], none, none, rfl, f23.trans f4, hq0B, hq0r, (f3.trans f4).l hprs g12, trivial, (fun t ht => by cases ht), rfl, by omega, (f3.trans f4).l (ne_st hd.1 hq0B) g2⟩
  · rintro n i σ' H4 hn hi ⟨q, bf, ps, ts, z5, z6, rfl, f4, hqB, hqr, gp, hT, hok, hl, hbf, gq⟩
    obtain ⟨nd, rfl, hnd⟩ := hn
    have hqs := ne_st hd.1 hqB
    refine q_asgRaw (fun v H' => ∃ (p : Addr) (t : T3), v = .ref p ∧ Fr s H4 H' ∧ H' p = some (.tup (triV t)) ∧ okR t) (fun Q' q' => ⟨_, rfl, _, rfl, _, rfl, s, a, ns, bf, rfl, hd.fr f4, hbf, fun p t H' hp f g ho => q' _ H' ⟨p, t, rfl, f, g, ho⟩⟩) ?_
    rintro _ H5 ⟨p, t, rfl, f5, g5, ho⟩
    have hpl := hT.len
    have gp5 := f5.l hprs gp
    refine q_app gp5 (ev_var rfl) (ev_var rfl) (by rw [List.length_map]; omega) fun H6 e6 => ?_
    have hT6 := ((((hT.fr f4.2 f5).ex e6).snoc (f := t) (e6 _ _ g5))).updL (ys := ps.map V.ref ++ [V.ref p]) (e6 _ _ gp5)
    have f6 : Fr s B (upd H6 pr (.lst (ps.map V.ref ++ [V.ref p]))) := ((f4.trans f5).tex e6).mut hpr hprs
    have g6 : (upd H6 pr (.lst (ps.map V.ref ++ [V.ref p]))) pr = some (.lst ((ps ++ [p]).map V.ref)) := by rw [upd_same, List.map_append]; rfl
    have gq6 : (upd H6 pr (.lst (ps.map V.ref ++ [V.ref p]))) q = some (.lst ((cs (rowsB ts)).map V.int)) := by rw [upd_ne hqr]; exact e6 _ _ (f5.l hqs gq)
    have hpp : p ≠ pr := by rintro rfl; rw [gp5] at g5; cases g5
    have gt6 : (upd H6 pr (.lst (ps.map V.ref ++ [V.ref p]))) p = some (.tup (triV t)) := by rw [upd_ne hpp]; exact e6 _ _ g5
    generalize upd H6 pr (.lst (ps.map V.ref ++ [V.ref p])) = H7 at *
    refine q_asg (v := .int (t.1 : Int)) (ev_atT (n := 0) (ev_var rfl) (st_of gt6) ev_c (at_of (j := 0) rfl rfl)) fun H8 e8 => ?_
    have gt8 := e8 _ _ gt6
    have hlen : (rowsB ts).length ≤ 18000 := by rw [rowsB_len]; omega
    refine s_asgL (xs := (cs (rowsB (ts ++ [t]))).map V.int) (EvL.is (el_cat (EvL.r (el_cat (EvL.r (el_cat (Ev.r (ev_var rfl) (e8 _ _ gq6)) (EvL.r (el_numb (x := t.1) (n := 8) (ev_atT (n := 0) (v := .int (t.1 : Int)) (ev_var rfl) (st_of gt8) ev_c (at_of (j := 0) rfl rfl)) ev_c (by decide))) (by rw [List.length_map, cs_len, List.length_map, cs_len, bigB_len]; omega))) (EvL.r (el_numb (x := t.2.1) (n := 8) (ev_atT (n := 1) (v := .int (t.2.1 : Int)) (ev_var rfl) (st_of gt8) ev_c (at_of (j := 1) rfl rfl)) ev_c (by decide))) (by rw [List.length_append, List.length_map, cs_len, List.length_map, cs_len, List.length_map, cs_len, bigB_len, bigB_len]; omega))) (EvL.r (el_numb (x := t.2.2) (n := 2) (ev_atT (n := 2) (v := .int (t.2.2 : Int)) (ev_var rfl) (st_of gt8) ev_c (at_of (j := 2) rfl rfl)) ev_c (by decide))) (by rw [List.length_append, List.length_append, List.length_map, cs_len, List.length_map, cs_len, List.length_map, cs_len, List.length_map, cs_len, bigB_len, bigB_len, bigB_len]; omega)) (by rw [rowsB_snoc]; unfold rB; rw [cs_append, cs_append, cs_append, List.map_append, List.map_append, List.map_append, List.append_assoc, List.append_assoc, List.append_assoc])) fun q' H9 hq' e9 g9 => ⟨q', t.1, ps ++ [p], ts ++ [t], some (.int (i : Int)), some (.ref p), rfl, f6.tex (e8.trans e9), (f6.tex e8).fresh hq', (ne_of_none (e8 _ _ g6) hq').symm, (e8.trans e9) _ _ g6, hT6.ex (e8.trans e9), fun u hu => ?_, by rw [List.length_append, hl]; rfl, ho.1, g9⟩
    rcases List.mem_append.mp hu with h | h
    · exact hok u h
    · rw [List.mem_singleton.mp h]
      exact ho
  rintro n σ' H4 hn ⟨q, bf, ps, ts, z5, z6, rfl, f4, hqB, hqr, gp, hT, hok, hl, hbf, gq⟩
  obtain ⟨nd, rfl, hnd⟩ := hn
  have hl5 : ts.length ≤ 5 := by omega
  have hqs := ne_st hd.1 hqB
  have hrl := rowsB_len ts
  refine q_asg ev_c fun H5 e5 => ?_
  refine q_cut (M := fun σ' H' => ∃ ex : Nat, ex < 18 ∧ σ' = [some (.ref a), some (.ref s), some (.ref pr), some (.ref q), some (.int (bf : Int)), z5, z6, some (.int (ex : Int)), none, none] ∧ Fr s H4 H') ?_ ?_
  · have f5 := Fr.ex f4.2 e5
    refine sw_when (wt_eq (wi_draw (hd.fr (f4.trans f5)) rfl rfl ev_c (by decide) (by decide)) fun H6 f6 => wi_ev (f5.trans f6).2 ev_c) (fun _ H6 f6 => ?_) (fun _ H6 f6 => ⟨0, by decide, rfl, f5.trans f6⟩)
    refine sw_asg (wi_op (wi_ev f6.2 ev_c) fun H7 f7 => wi_draw (hd.fr (f4.trans ((f5.trans f6).trans f7))) rfl rfl ev_c (by decide) (by decide)) fun z H7 f7 hz => ?_
    obtain ⟨_, _, rfl, ⟨c, rfl, hc⟩, rfl⟩ := hz
    refine ⟨1 + c, by omega, ?_, (f5.trans f6).trans f7⟩
    show [_, _, _, _, _, _, _, some (V.int (1 + (c : Int))), _, _] = _
    rw [show (1 : Int) + (c : Int) = ((1 + c : Nat) : Int) by omega]
  rintro σ' H6 ⟨ex, hex, rfl, f6⟩
  have f46 := f4.trans f6
  have gp6 := f6.l hprs gp
  have gq6 := f6.l hqs gq
  have hT6 := hT.fr f4.2 f6
  refine qw_asgL (wl_catR f6.2 (ev_var rfl) hqs gq6 (fun H7 f7 => wl_junk (hd.fr (f46.trans f7)) rfl rfl (wi_ev (f6.trans f7).2 (ev_var rfl)) (fun z hz => by rw [hz]; omega)) (fun ys hy => by obtain ⟨ds, rfl, h, _⟩ := hy; rw [List.length_map, cs_len, List.length_map, cs_len]; omega)) fun pb xs H7 hpb f7 gb hxs => ?_
  obtain ⟨_, ⟨jk, rfl, hjl, hje, hjb⟩, rfl⟩ := hxs
  have hje : jk.length = ex := by omega
  have f47 := f46.trans f7
  have hpbs := ne_st f6.2 hpb
  rw [← List.map_append, ← cs_append] at gb
  refine qw_asg (wi_draw (hd.fr f47) rfl rfl ev_c (by decide) (by decide)) fun z H8 f8 hz => ?_
  obtain ⟨st, rfl, hst⟩ := hz
  have f48 := f47.trans f8
  have gb8 := f8.l hpbs gb
  refine qw_asgL (wl_cat f8.2 (el_cat (EvL.r (EvL.is (el_rep (xs := [V.int 7]) (k := (st : Int)) (EvL.r (el_lst (ea_cons ev_c ea_nil) (by decide))) (ev_var rfl) (by omega) (by show 1 * (st : Int).toNat ≤ 100000; omega)) (ys := (cs (List.replicate st 7)).map V.int) (by rw [rep_one, Int.toNat_natCast]; exact cs_rep st 7))) (Ev.r (ev_var rfl) gb8) (by rw [List.length_map, cs_len, List.length_map, cs_len, List.length_append, List.length_replicate]; omega)) (fun H9 f9 => wl_rep (f8.trans f9).2 (el_lst (ea_cons ev_c ea_nil) (by decide)) (fun H10 f10 => wi_draw (hd.fr (f48.trans (f9.trans f10))) rfl rfl ev_c (by decide) (by decide)) (fun z hz => by obtain ⟨d, rfl, h⟩ := hz; omega)) (fun ys hy => by obtain ⟨n, _, hn, rfl⟩ := hy; rw [List.length_append, List.length_map, List.length_map, cs_len, cs_len, List.length_replicate, List.length_replicate, List.length_append]; omega)) fun pd xs H9 hpd f9 gd hxs => ?_
  obtain ⟨_, ⟨m, -, hm, rfl⟩, rfl⟩ := hxs
  rw [show List.replicate m (V.int 9) = (cs (List.replicate m 9)).map V.int from cs_rep m 9, ← List.map_append, ← List.map_append, ← cs_append, ← cs_append, List.append_assoc, List.append_assoc] at gd
  have gb9 := f9.l hpbs gb8
  have f69 := (f7.trans f8).trans f9
  obtain ⟨d, hd⟩ := outD_any (ts.map ptO) ex st
  refine s_ret (v := .bl true) (ev_eqDD (ed_lout (pre := List.replicate st 7) (post := jk ++ List.replicate m 9) (ts := ts) (ex := ex) (ev_var rfl) (ev_var rfl) (ev_I0 (ev_var rfl) (Ev.is (ev_lenS (Ev.s (ev_var rfl) (sq_of gb9))) (by rw [List.length_map, cs_len]))) (by rw [List.length_replicate]) (by rw [List.length_replicate, List.length_append]; omega) (sq_of gd) (fun x hx => ?_) hok (by omega) (by rw [List.length_replicate]; omega) hex (by rw [List.length_replicate]; exact hd)) (ed_lexp (ev_var rfl) (ev_var rfl) (ev_var rfl) (f69.l hprs gp6) (hT6.fr f6.2 f69) (by omega) hd) (outD_shaped hd)) fun H10 e10 => k H10
  rcases List.mem_append.mp hx with h | h
  · rw [List.eq_of_mem_replicate h]
    decide
  · rcases List.mem_append.mp h with h | h
    · exact rowsB_lt ts x h
    · rcases List.mem_append.mp h with h | h
      · exact hjb x h
      · rw [List.eq_of_mem_replicate h]
        decide

end
theorem all_mk {l : PySem.W.OpenLaw} {w : World} {K : PySem.W.Frag} {h : Heap} {mg : Str → Option Value} {fa : Addr} {f1 f2 f3 f4 f5 f6 f7 f8 f9 f10 f11 f12 f13 f14 f15 C_MonochordError C_InvalidForm C_OutOfOrder : Addr} (X : K.In h) (G : h.Ns mainGlobals mg) (hfa : mg "law" = some (.ref fa))
    {od1 an1 : Option Addr} {sl1 : Array (Option Value)} {oc1 dc1 pm1 cd1 ct1 : Value} {kV1 : Value} {od2 an2 : Option Addr} {sl2 : Array (Option Value)} {oc2 dc2 pm2 cd2 ct2 : Value} {kV2 : Value} {od3 an3 : Option Addr} {sl3 : Array (Option Value)} {oc3 dc3 pm3 cd3 ct3 : Value} {kV3 : Value} {od4 an4 : Option Addr} {sl4 : Array (Option Value)} {oc4 dc4 pm4 cd4 ct4 : Value} {kV4 : Value} {od5 an5 : Option Addr} {sl5 : Array (Option Value)} {oc5 dc5 pm5 cd5 ct5 : Value} {kV5 : Value} {od6 an6 : Option Addr} {sl6 : Array (Option Value)} {oc6 dc6 pm6 cd6 ct6 : Value} {kV6 : Value} {od7 an7 : Option Addr} {sl7 : Array (Option Value)} {oc7 dc7 pm7 cd7 ct7 : Value} {kV7 : Value} {od8 an8 : Option Addr} {sl8 : Array (Option Value)} {oc8 dc8 pm8 cd8 ct8 : Value} {kV8 : Value} {od9 an9 : Option Addr} {sl9 : Array (Option Value)} {oc9 dc9 pm9 cd9 ct9 : Value} {kV9 : Value} {od10 an10 : Option Addr} {sl10 : Array (Option Value)} {oc10 dc10 pm10 cd10 ct10 : Value} {kV10 : Value} {od11 an11 : Option Addr} {sl11 : Array (Option Value)} {oc11 dc11 pm11 cd11 ct11 : Value} {kV11 : Value} {od12 an12 : Option Addr} {sl12 : Array (Option Value)} {oc12 dc12 pm12 cd12 ct12 : Value} {kV12 : Value} {od13 an13 : Option Addr} {sl13 : Array (Option Value)} {oc13 dc13 pm13 cd13 ct13 : Value} {kV13 : Value} {od14 an14 : Option Addr} {sl14 : Array (Option Value)} {oc14 dc14 pm14 cd14 ct14 : Value} {kV14 : Value} {od15 an15 : Option Addr} {sl15 : Array (Option Value)} {oc15 dc15 pm15 cd15 ct15 : Value} {kV15 : Value} {xn_MonochordError xq_MonochordError : Str} {xN_MonochordError : Addr} {xb_MonochordError : List Value} {xs_MonochordError : List Str} {xu_MonochordError : List Value} {xa_MonochordError : Bool} {xc_MonochordError : Option Bool} {xd_MonochordError : Option Addr} {xj0_MonochordError xj1_MonochordError xj3_MonochordError xj5_MonochordError : Option Value} {xt_MonochordError : Tok} {xn_InvalidForm xq_InvalidForm : Str} {xN_InvalidForm : Addr} {xb_InvalidForm : List Value} {xs_InvalidForm : List Str} {xu_InvalidForm : List Value} {xa_InvalidForm : Bool} {xc_InvalidForm : Option Bool} {xd_InvalidForm : Option Addr} {xj0_InvalidForm xj1_InvalidForm xj3_InvalidForm xj5_InvalidForm : Option Value} {xt_InvalidForm : Tok} {xn_OutOfOrder xq_OutOfOrder : Str} {xN_OutOfOrder : Addr} {xb_OutOfOrder : List Value} {xs_OutOfOrder : List Str} {xu_OutOfOrder : List Value} {xa_OutOfOrder : Bool} {xc_OutOfOrder : Option Bool} {xd_OutOfOrder : Option Addr} {xj0_OutOfOrder xj1_OutOfOrder xj3_OutOfOrder xj5_OutOfOrder : Option Value} {xt_OutOfOrder : Tok} {u_POINT_LENGTH : Value} {u_NO_SAMPLE : Value}
    (a1 : PySem.W.findIn K (.ref C_MonochordError) "__init__" = some (some (.ref f1))) (i1 : PySem.W.isFn K (.ref f1) = true)
    (l1 : K.lookup f1 = some ⟨oc1, od1, .func (PySem.W.fnOf "__init__" "MonochordError.__init__" (defArgs s_MonochordError_init) (defBody s_MonochordError_init) (defScope s_MonochordError_init) .none kV1 dc1 pm1 an1 cd1 ct1), sl1⟩) (c1 : PySem.W.codeIn K cd1 "MonochordError.__init__" = true) (k1 : PySem.W.keepIn K (.ref f1) = true)
    (a2 : PySem.W.nsIn K mainGlobals "big_number" = some (some (.ref f2)))
    (l2 : K.lookup f2 = some ⟨oc2, od2, .func (PySem.W.fnOf "big_number" "big_number" (defArgs s_big_number) (defBody s_big_number) (defScope s_big_number) .none kV2 dc2 pm2 an2 cd2 ct2), sl2⟩) (c2 : PySem.W.codeIn K cd2 "big_number" = true) (k2 : PySem.W.keepIn K (.ref f2) = true)
    (a3 : PySem.W.nsIn K mainGlobals "read_seektable" = some (some (.ref f3)))
    (l3 : K.lookup f3 = some ⟨oc3, od3, .func (PySem.W.fnOf "read_seektable" "read_seektable" (defArgs s_read_seektable) (defBody s_read_seektable) (defScope s_read_seektable) .none kV3 dc3 pm3 an3 cd3 ct3), sl3⟩) (c3 : PySem.W.codeIn K cd3 "read_seektable" = true) (k3 : PySem.W.keepIn K (.ref f3) = true)
    (a4 : PySem.W.nsIn K mainGlobals "_read_point" = some (some (.ref f4)))
    (l4 : K.lookup f4 = some ⟨oc4, od4, .func (PySem.W.fnOf "_read_point" "_read_point" (defArgs s_read_point) (defBody s_read_point) (defScope s_read_point) .none kV4 dc4 pm4 an4 cd4 ct4), sl4⟩) (c4 : PySem.W.codeIn K cd4 "_read_point" = true) (k4 : PySem.W.keepIn K (.ref f4) = true)
    (a5 : PySem.W.nsIn K mainGlobals "_may_follow" = some (some (.ref f5)))
    (l5 : K.lookup f5 = some ⟨oc5, od5, .func (PySem.W.fnOf "_may_follow" "_may_follow" (defArgs s_may_follow) (defBody s_may_follow) (defScope s_may_follow) .none kV5 dc5 pm5 an5 cd5 ct5), sl5⟩) (c5 : PySem.W.codeIn K cd5 "_may_follow" = true) (k5 : PySem.W.keepIn K (.ref f5) = true)
    (a6 : PySem.W.nsIn K mainGlobals "_law_is_integer" = some (some (.ref f6)))
    (l6 : K.lookup f6 = some ⟨oc6, od6, .func (PySem.W.fnOf "_law_is_integer" "_law_is_integer" (defArgs s_law_is_integer) (defBody s_law_is_integer) (defScope s_law_is_integer) .none kV6 dc6 pm6 an6 cd6 ct6), sl6⟩) (c6 : PySem.W.codeIn K cd6 "_law_is_integer" = true) (k6 : PySem.W.keepIn K (.ref f6) = true)
    (a7 : PySem.W.nsIn K mainGlobals "_law_refill" = some (some (.ref f7)))
    (l7 : K.lookup f7 = some ⟨oc7, od7, .func (PySem.W.fnOf "_law_refill" "_law_refill" (defArgs s_law_refill) (defBody s_law_refill) (defScope s_law_refill) .none kV7 dc7 pm7 an7 cd7 ct7), sl7⟩) (c7 : PySem.W.codeIn K cd7 "_law_refill" = true) (k7 : PySem.W.keepIn K (.ref f7) = true)
    (a8 : PySem.W.nsIn K mainGlobals "_law_draw" = some (some (.ref f8)))
    (l8 : K.lookup f8 = some ⟨oc8, od8, .func (PySem.W.fnOf "_law_draw" "_law_draw" (defArgs s_law_draw) (defBody s_law_draw) (defScope s_law_draw) .none kV8 dc8 pm8 an8 cd8 ct8), sl8⟩) (c8 : PySem.W.codeIn K cd8 "_law_draw" = true) (k8 : PySem.W.keepIn K (.ref f8) = true)
    (a9 : PySem.W.nsIn K mainGlobals "_law_wide" = some (some (.ref f9)))
    (l9 : K.lookup f9 = some ⟨oc9, od9, .func (PySem.W.fnOf "_law_wide" "_law_wide" (defArgs s_law_wide) (defBody s_law_wide) (defScope s_law_wide) .none kV9 dc9 pm9 an9 cd9 ct9), sl9⟩) (c9 : PySem.W.codeIn K cd9 "_law_wide" = true) (k9 : PySem.W.keepIn K (.ref f9) = true)
    (a10 : PySem.W.nsIn K mainGlobals "_law_junk" = some (some (.ref f10)))
    (l10 : K.lookup f10 = some ⟨oc10, od10, .func (PySem.W.fnOf "_law_junk" "_law_junk" (defArgs s_law_junk) (defBody s_law_junk) (defScope s_law_junk) .none kV10 dc10 pm10 an10 cd10 ct10), sl10⟩) (c10 : PySem.W.codeIn K cd10 "_law_junk" = true) (k10 : PySem.W.keepIn K (.ref f10) = true)
    (a11 : PySem.W.nsIn K mainGlobals "_law_number_bytes" = some (some (.ref f11)))
    (l11 : K.lookup f11 = some ⟨oc11, od11, .func (PySem.W.fnOf "_law_number_bytes" "_law_number_bytes" (defArgs s_law_number_bytes) (defBody s_law_number_bytes) (defScope s_law_number_bytes) .none kV11 dc11 pm11 an11 cd11 ct11), sl11⟩) (c11 : PySem.W.codeIn K cd11 "_law_number_bytes" = true) (k11 : PySem.W.keepIn K (.ref f11) = true)
    (a12 : PySem.W.nsIn K mainGlobals "_law_row" = some (some (.ref f12)))
    (l12 : K.lookup f12 = some ⟨oc12, od12, .func (PySem.W.fnOf "_law_row" "_law_row" (defArgs s_law_row) (defBody s_law_row) (defScope s_law_row) .none kV12 dc12 pm12 an12 cd12 ct12), sl12⟩) (c12 : PySem.W.codeIn K cd12 "_law_row" = true) (k12 : PySem.W.keepIn K (.ref f12) = true)
    (a13 : PySem.W.nsIn K mainGlobals "_law_expected" = some (some (.ref f13)))
    (l13 : K.lookup f13 = some ⟨oc13, od13, .func (PySem.W.fnOf "_law_expected" "_law_expected" (defArgs s_law_expected) (defBody s_law_expected) (defScope s_law_expected) .none kV13 dc13 pm13 an13 cd13 ct13), sl13⟩) (c13 : PySem.W.codeIn K cd13 "_law_expected" = true) (k13 : PySem.W.keepIn K (.ref f13) = true)
    (a14 : PySem.W.nsIn K mainGlobals "_law_outcome" = some (some (.ref f14)))
    (l14 : K.lookup f14 = some ⟨oc14, od14, .func (PySem.W.fnOf "_law_outcome" "_law_outcome" (defArgs s_law_outcome) (defBody s_law_outcome) (defScope s_law_outcome) .none kV14 dc14 pm14 an14 cd14 ct14), sl14⟩) (c14 : PySem.W.codeIn K cd14 "_law_outcome" = true) (k14 : PySem.W.keepIn K (.ref f14) = true)
    (a15 : PySem.W.nsIn K mainGlobals "law" = some (some (.ref f15)))
    (l15 : K.lookup f15 = some ⟨oc15, od15, .func (PySem.W.fnOf "law" "law" (defArgs s_law) (defBody s_law) (defScope s_law) .none kV15 dc15 pm15 an15 cd15 ct15), sl15⟩) (c15 : PySem.W.codeIn K cd15 "law" = true) (k15 : PySem.W.keepIn K (.ref f15) = true)
    (aC_MonochordError : PySem.W.nsIn K mainGlobals "MonochordError" = some (some (.ref C_MonochordError)))
    (xl_MonochordError : K.lookup C_MonochordError = some (excClassObj xn_MonochordError xq_MonochordError C_MonochordError xN_MonochordError xb_MonochordError [.type "ValueError", .type "Exception", .type "BaseException", .type "object"] true xs_MonochordError xu_MonochordError xa_MonochordError xc_MonochordError xd_MonochordError xj0_MonochordError xj1_MonochordError (some (.str "MonochordError" xt_MonochordError)) xj3_MonochordError xj5_MonochordError "ValueError.__new__")) (xsa_MonochordError : PySem.W.findIn K (.ref C_MonochordError) "__setattr__" = some (some (.builtin "object.__setattr__"))) (xty_MonochordError : PySem.W.typeIn K (.ref C_MonochordError) = some (.type "type")) (xkc_MonochordError : PySem.W.keepIn K (.ref C_MonochordError) = true) (xic_MonochordError : PySem.W.findIn K (.ref C_MonochordError) "__init__" = some (some (.ref f1))) (xnp_MonochordError : PySem.W.findIn K (.ref C_MonochordError) "place" = some none) (xnn_MonochordError : PySem.W.findIn K (.ref C_MonochordError) "name" = some none) (xhg_MonochordError : PySem.W.findIn K (.ref C_MonochordError) "__getattribute__" = some (some (.builtin "BaseException.__getattribute__"))) (xhk_MonochordError : PySem.W.findIn K (.ref C_MonochordError) "__getattr__" = some none) (xhs_MonochordError : PySem.W.subIn K (.ref C_MonochordError) (.type "BaseException") = some true) (xhd_MonochordError : PySem.W.hasDictIn K C_MonochordError = true) (xha_MonochordError : PySem.W.findIn K (.ref C_MonochordError) "__class__" = some (some (.builtin "object.__class__"))) (xhn_MonochordError : PySem.W.specialIn K (.builtin "object.__class__") "__get__" = some (some (.builtin "getset_descriptor.__get__"))) (xht_MonochordError : PySem.W.takesIn K (.builtin "object.__class__") = some true) (xhm_MonochordError : PySem.W.mroIn K C_MonochordError (.type "object") = some true) (xrd_MonochordError : PySem.W.readsIn K C_MonochordError (.type "type") = true) (xfc_MonochordError : PySem.W.findCls K (.ref C_MonochordError) (.type "type") "__name__" = some (.get (.builtin "getset_descriptor.__get__") (.builtin "type.__name__") (.ref C_MonochordError) (.type "type")))
    (aC_InvalidForm : PySem.W.nsIn K mainGlobals "InvalidForm" = some (some (.ref C_InvalidForm)))
    (xl_InvalidForm : K.lookup C_InvalidForm = some (excClassObj xn_InvalidForm xq_InvalidForm C_InvalidForm xN_InvalidForm xb_InvalidForm [.ref C_MonochordError, .type "ValueError", .type "Exception", .type "BaseException", .type "object"] true xs_InvalidForm xu_InvalidForm xa_InvalidForm xc_InvalidForm xd_InvalidForm xj0_InvalidForm xj1_InvalidForm (some (.str "InvalidForm" xt_InvalidForm)) xj3_InvalidForm xj5_InvalidForm "ValueError.__new__")) (xsa_InvalidForm : PySem.W.findIn K (.ref C_InvalidForm) "__setattr__" = some (some (.builtin "object.__setattr__"))) (xty_InvalidForm : PySem.W.typeIn K (.ref C_InvalidForm) = some (.type "type")) (xkc_InvalidForm : PySem.W.keepIn K (.ref C_InvalidForm) = true) (xic_InvalidForm : PySem.W.findIn K (.ref C_InvalidForm) "__init__" = some (some (.ref f1))) (xnp_InvalidForm : PySem.W.findIn K (.ref C_InvalidForm) "place" = some none) (xnn_InvalidForm : PySem.W.findIn K (.ref C_InvalidForm) "name" = some none) (xhg_InvalidForm : PySem.W.findIn K (.ref C_InvalidForm) "__getattribute__" = some (some (.builtin "BaseException.__getattribute__"))) (xhk_InvalidForm : PySem.W.findIn K (.ref C_InvalidForm) "__getattr__" = some none) (xhs_InvalidForm : PySem.W.subIn K (.ref C_InvalidForm) (.type "BaseException") = some true) (xhd_InvalidForm : PySem.W.hasDictIn K C_InvalidForm = true) (xha_InvalidForm : PySem.W.findIn K (.ref C_InvalidForm) "__class__" = some (some (.builtin "object.__class__"))) (xhn_InvalidForm : PySem.W.specialIn K (.builtin "object.__class__") "__get__" = some (some (.builtin "getset_descriptor.__get__"))) (xht_InvalidForm : PySem.W.takesIn K (.builtin "object.__class__") = some true) (xhm_InvalidForm : PySem.W.mroIn K C_InvalidForm (.type "object") = some true) (xrd_InvalidForm : PySem.W.readsIn K C_InvalidForm (.type "type") = true) (xfc_InvalidForm : PySem.W.findCls K (.ref C_InvalidForm) (.type "type") "__name__" = some (.get (.builtin "getset_descriptor.__get__") (.builtin "type.__name__") (.ref C_InvalidForm) (.type "type")))
    (aC_OutOfOrder : PySem.W.nsIn K mainGlobals "OutOfOrder" = some (some (.ref C_OutOfOrder)))
    (xl_OutOfOrder : K.lookup C_OutOfOrder = some (excClassObj xn_OutOfOrder xq_OutOfOrder C_OutOfOrder xN_OutOfOrder xb_OutOfOrder [.ref C_MonochordError, .type "ValueError", .type "Exception", .type "BaseException", .type "object"] true xs_OutOfOrder xu_OutOfOrder xa_OutOfOrder xc_OutOfOrder xd_OutOfOrder xj0_OutOfOrder xj1_OutOfOrder (some (.str "OutOfOrder" xt_OutOfOrder)) xj3_OutOfOrder xj5_OutOfOrder "ValueError.__new__")) (xsa_OutOfOrder : PySem.W.findIn K (.ref C_OutOfOrder) "__setattr__" = some (some (.builtin "object.__setattr__"))) (xty_OutOfOrder : PySem.W.typeIn K (.ref C_OutOfOrder) = some (.type "type")) (xkc_OutOfOrder : PySem.W.keepIn K (.ref C_OutOfOrder) = true) (xic_OutOfOrder : PySem.W.findIn K (.ref C_OutOfOrder) "__init__" = some (some (.ref f1))) (xnp_OutOfOrder : PySem.W.findIn K (.ref C_OutOfOrder) "place" = some none) (xnn_OutOfOrder : PySem.W.findIn K (.ref C_OutOfOrder) "name" = some none) (xhg_OutOfOrder : PySem.W.findIn K (.ref C_OutOfOrder) "__getattribute__" = some (some (.builtin "BaseException.__getattribute__"))) (xhk_OutOfOrder : PySem.W.findIn K (.ref C_OutOfOrder) "__getattr__" = some none) (xhs_OutOfOrder : PySem.W.subIn K (.ref C_OutOfOrder) (.type "BaseException") = some true) (xhd_OutOfOrder : PySem.W.hasDictIn K C_OutOfOrder = true) (xha_OutOfOrder : PySem.W.findIn K (.ref C_OutOfOrder) "__class__" = some (some (.builtin "object.__class__"))) (xhn_OutOfOrder : PySem.W.specialIn K (.builtin "object.__class__") "__get__" = some (some (.builtin "getset_descriptor.__get__"))) (xht_OutOfOrder : PySem.W.takesIn K (.builtin "object.__class__") = some true) (xhm_OutOfOrder : PySem.W.mroIn K C_OutOfOrder (.type "object") = some true) (xrd_OutOfOrder : PySem.W.readsIn K C_OutOfOrder (.type "type") = true) (xfc_OutOfOrder : PySem.W.findCls K (.ref C_OutOfOrder) (.type "type") "__name__" = some (.get (.builtin "getset_descriptor.__get__") (.builtin "type.__name__") (.ref C_OutOfOrder) (.type "type")))
    (xti : PySem.W.typeIn K (.ref f1) = some (.type "function"))
    (xsv_MonochordError : PySem.W.subIn K (.ref C_MonochordError) (.type "ValueError") = some true)
    (xsu_MonochordError_MonochordError : PySem.W.subIn K (.ref C_MonochordError) (.ref C_MonochordError) = some true)
    (xsu_MonochordError_InvalidForm : PySem.W.subIn K (.ref C_MonochordError) (.ref C_InvalidForm) = some false)
    (xsu_MonochordError_OutOfOrder : PySem.W.subIn K (.ref C_MonochordError) (.ref C_OutOfOrder) = some false)
    (xsv_InvalidForm : PySem.W.subIn K (.ref C_InvalidForm) (.type "ValueError") = some true)
    (xsu_InvalidForm_MonochordError : PySem.W.subIn K (.ref C_InvalidForm) (.ref C_MonochordError) = some true)
    (xsu_InvalidForm_InvalidForm : PySem.W.subIn K (.ref C_InvalidForm) (.ref C_InvalidForm) = some true)
    (xsu_InvalidForm_OutOfOrder : PySem.W.subIn K (.ref C_InvalidForm) (.ref C_OutOfOrder) = some false)
    (xsv_OutOfOrder : PySem.W.subIn K (.ref C_OutOfOrder) (.type "ValueError") = some true)
    (xsu_OutOfOrder_MonochordError : PySem.W.subIn K (.ref C_OutOfOrder) (.ref C_MonochordError) = some true)
    (xsu_OutOfOrder_InvalidForm : PySem.W.subIn K (.ref C_OutOfOrder) (.ref C_InvalidForm) = some false)
    (xsu_OutOfOrder_OutOfOrder : PySem.W.subIn K (.ref C_OutOfOrder) (.ref C_OutOfOrder) = some true)
    (z_range : PySem.W.nsIn K mainGlobals "range" = some none)
    (z_len : PySem.W.nsIn K mainGlobals "len" = some none)
    (z_isinstance : PySem.W.nsIn K mainGlobals "isinstance" = some none)
    (z_int : PySem.W.nsIn K mainGlobals "int" = some none)
    (z_bool : PySem.W.nsIn K mainGlobals "bool" = some none)
    (z_min : PySem.W.nsIn K mainGlobals "min" = some none)
    (z_ValueError : PySem.W.nsIn K mainGlobals "ValueError" = some none)
    (q_POINT_LENGTH : PySem.W.nsIn K mainGlobals "_POINT_LENGTH" = some (some u_POINT_LENGTH)) (r_POINT_LENGTH : RelV (.int (18)) u_POINT_LENGTH)
    (q_NO_SAMPLE : PySem.W.nsIn K mainGlobals "_NO_SAMPLE" = some (some u_NO_SAMPLE)) (r_NO_SAMPLE : RelV (.int (18446744073709551615)) u_NO_SAMPLE)
    : ∃ fd : FuncData, (∀ (s : Shared) (v : Value), BindsTo s fd ⟨[v], []⟩ [("script", v)]) ∧ ∀ base : Heap, K.In base → base.Ns mainGlobals mg → FnOk l.prog w K mg base CX0 5 fa fd ["script"] (sp_law K) := by
  have e := hfa.symm.trans (PySem.W.mg_of X G a15)
  cases e
  have F1 := fun_mk (st := s_MonochordError_init) l1 c1 k1
  have b1 := F1.binds (ps := ["self", "place"]) fun _ _ _ _ _ _ us hl => match us, hl with | [_, _], _ => rfl
  have F2 := fun_mk (st := s_big_number) l2 c2 k2
  have b2 := F2.binds (ps := ["data", "place", "count"]) fun _ _ _ _ _ _ us hl => match us, hl with | [_, _, _], _ => rfl
  have F3 := fun_mk (st := s_read_seektable) l3 c3 k3
  have b3 := F3.binds (ps := ["data", "start", "stop"]) fun _ _ _ _ _ _ us hl => match us, hl with | [_, _, _], _ => rfl
  have F4 := fun_mk (st := s_read_point) l4 c4 k4
  have b4 := F4.binds (ps := ["data", "place"]) fun _ _ _ _ _ _ us hl => match us, hl with | [_, _], _ => rfl
  have F5 := fun_mk (st := s_may_follow) l5 c5 k5
  have b5 := F5.binds (ps := ["before", "point"]) fun _ _ _ _ _ _ us hl => match us, hl with | [_, _], _ => rfl
  have F6 := fun_mk (st := s_law_is_integer) l6 c6 k6
  have b6 := F6.binds (ps := ["actual"]) fun _ _ _ _ _ _ us hl => match us, hl with | [_], _ => rfl
  have F7 := fun_mk (st := s_law_refill) l7 c7 k7
  have b7 := F7.binds (ps := ["script", "k"]) fun _ _ _ _ _ _ us hl => match us, hl with | [_, _], _ => rfl
  have F8 := fun_mk (st := s_law_draw) l8 c8 k8
  have b8 := F8.binds (ps := ["state", "script", "size"]) fun _ _ _ _ _ _ us hl => match us, hl with | [_, _, _], _ => rfl
  have F9 := fun_mk (st := s_law_wide) l9 c9 k9
  have b9 := F9.binds (ps := ["state", "script", "size"]) fun _ _ _ _ _ _ us hl => match us, hl with | [_, _, _], _ => rfl
  have F10 := fun_mk (st := s_law_junk) l10 c10 k10
  have b10 := F10.binds (ps := ["state", "script", "count"]) fun _ _ _ _ _ _ us hl => match us, hl with | [_, _, _], _ => rfl
  have F11 := fun_mk (st := s_law_number_bytes) l11 c11 k11
  have b11 := F11.binds (ps := ["number", "count"]) fun _ _ _ _ _ _ us hl => match us, hl with | [_, _], _ => rfl
  have F12 := fun_mk (st := s_law_row) l12 c12 k12
  have b12 := F12.binds (ps := ["state", "script", "before"]) fun _ _ _ _ _ _ us hl => match us, hl with | [_, _, _], _ => rfl
  have F13 := fun_mk (st := s_law_expected) l13 c13 k13
  have b13 := F13.binds (ps := ["rows", "extra", "start"]) fun _ _ _ _ _ _ us hl => match us, hl with | [_, _, _], _ => rfl
  have F14 := fun_mk (st := s_law_outcome) l14 c14 k14
  have b14 := F14.binds (ps := ["data", "start", "stop"]) fun _ _ _ _ _ _ us hl => match us, hl with | [_, _, _], _ => rfl
  have F15 := fun_mk (st := s_law) l15 c15 k15
  have b15 := F15.binds (ps := ["script"]) fun _ _ _ _ _ _ us hl => match us, hl with | [_], _ => rfl
  let T : TX K mg := ⟨f1, _, F1, b1, f2, _, F2, b2, (PySem.W.mg_of X G a2), f3, _, F3, b3, (PySem.W.mg_of X G a3), f4, _, F4, b4, (PySem.W.mg_of X G a4), f5, _, F5, b5, (PySem.W.mg_of X G a5), f6, _, F6, b6, (PySem.W.mg_of X G a6), f7, _, F7, b7, (PySem.W.mg_of X G a7), f8, _, F8, b8, (PySem.W.mg_of X G a8), f9, _, F9, b9, (PySem.W.mg_of X G a9), f10, _, F10, b10, (PySem.W.mg_of X G a10), f11, _, F11, b11, (PySem.W.mg_of X G a11), f12, _, F12, b12, (PySem.W.mg_of X G a12), f13, _, F13, b13, (PySem.W.mg_of X G a13), f14, _, F14, b14, (PySem.W.mg_of X G a14), fa, _, F15, b15, (PySem.W.mg_of X G a15), C_MonochordError, (PySem.W.mg_of X G aC_MonochordError), ⟨⟨_, _, _, _, _, _, _, _, _, _, _, _, _, _, _, xl_MonochordError, rfl⟩, xsa_MonochordError, xty_MonochordError, xkc_MonochordError, xic_MonochordError, xnp_MonochordError, xnn_MonochordError, ⟨xhg_MonochordError, xhk_MonochordError, xhs_MonochordError, xhd_MonochordError, xha_MonochordError, xhn_MonochordError, xht_MonochordError, xhm_MonochordError⟩, xrd_MonochordError, xfc_MonochordError⟩, C_InvalidForm, (PySem.W.mg_of X G aC_InvalidForm), ⟨⟨_, _, _, _, _, _, _, _, _, _, _, _, _, _, _, xl_InvalidForm, rfl⟩, xsa_InvalidForm, xty_InvalidForm, xkc_InvalidForm, xic_InvalidForm, xnp_InvalidForm, xnn_InvalidForm, ⟨xhg_InvalidForm, xhk_InvalidForm, xhs_InvalidForm, xhd_InvalidForm, xha_InvalidForm, xhn_InvalidForm, xht_InvalidForm, xhm_InvalidForm⟩, xrd_InvalidForm, xfc_InvalidForm⟩, C_OutOfOrder, (PySem.W.mg_of X G aC_OutOfOrder), ⟨⟨_, _, _, _, _, _, _, _, _, _, _, _, _, _, _, xl_OutOfOrder, rfl⟩, xsa_OutOfOrder, xty_OutOfOrder, xkc_OutOfOrder, xic_OutOfOrder, xnp_OutOfOrder, xnn_OutOfOrder, ⟨xhg_OutOfOrder, xhk_OutOfOrder, xhs_OutOfOrder, xhd_OutOfOrder, xha_OutOfOrder, xhn_OutOfOrder, xht_OutOfOrder, xhm_OutOfOrder⟩, xrd_OutOfOrder, xfc_OutOfOrder⟩, xti, xsv_MonochordError, xsu_MonochordError_MonochordError, xsu_MonochordError_InvalidForm, xsu_MonochordError_OutOfOrder, xsv_InvalidForm, xsu_InvalidForm_MonochordError, xsu_InvalidForm_InvalidForm, xsu_InvalidForm_OutOfOrder, xsv_OutOfOrder, xsu_OutOfOrder_MonochordError, xsu_OutOfOrder_InvalidForm, xsu_OutOfOrder_OutOfOrder, (PySem.W.mg_none_of X G z_range), (PySem.W.mg_none_of X G z_len), (PySem.W.mg_none_of X G z_isinstance), (PySem.W.mg_none_of X G z_int), (PySem.W.mg_none_of X G z_bool), (PySem.W.mg_none_of X G z_min), (PySem.W.mg_none_of X G z_ValueError), u_POINT_LENGTH, (PySem.W.mg_of X G q_POINT_LENGTH), r_POINT_LENGTH, u_NO_SAMPLE, (PySem.W.mg_of X G q_NO_SAMPLE), r_NO_SAMPLE⟩
  exact ⟨_, fun s v => .of_eq rfl, fun base _ _ => ok_law T⟩
end K46
open PySem PySem.W PyProof.Rows
set_option maxRecDepth 100000 in
set_option maxHeartbeats 0 in
theorem PySem.Challenge.cw_monochord_k46_seek_table_faults_holds : PySem.Challenge.rw_monochord_k46_seek_table_faults.Holds := by
  w_on; o_law; k_head; (case hw => w_witness2)
  k_fill
  refine L2.walk_of (l := PySem.Challenge.rw_monochord_k46_seek_table_faults) (n := 63) (k := 5) (x := "script") (CX := fun _ => L2.CX0) (sp := fun w => K46.sp_law _) rfl (by decide) rfl ⟨rfl, by decide, by decide⟩ (fun w h Y => PySem.W.kIn_of Y) ?F (fun _ _ a ns hl _ hS => ⟨a, ns, rfl, hS, hl, fun _ => rfl⟩) (fun _ _ _ _ _ h => h)
  case F =>
    intro w mg fa h KX G hmg
    refine' K46.all_mk KX G hmg ?a1 ?i1 ?l1 ?c1 ?k1 ?a2 ?l2 ?c2 ?k2 ?a3 ?l3 ?c3 ?k3 ?a4 ?l4 ?c4 ?k4 ?a5 ?l5 ?c5 ?k5 ?a6 ?l6 ?c6 ?k6 ?a7 ?l7 ?c7 ?k7 ?a8 ?l8 ?c8 ?k8 ?a9 ?l9 ?c9 ?k9 ?a10 ?l10 ?c10 ?k10 ?a11 ?l11 ?c11 ?k11 ?a12 ?l12 ?c12 ?k12 ?a13 ?l13 ?c13 ?k13 ?a14 ?l14 ?c14 ?k14 ?a15 ?l15 ?c15 ?k15 ?aC_MonochordError ?xl_MonochordError ?xsa_MonochordError ?xty_MonochordError ?xkc_MonochordError ?xic_MonochordError ?xnp_MonochordError ?xnn_MonochordError ?xhg_MonochordError ?xhk_MonochordError ?xhs_MonochordError ?xhd_MonochordError ?xha_MonochordError ?xhn_MonochordError ?xht_MonochordError ?xhm_MonochordError ?xrd_MonochordError ?xfc_MonochordError ?aC_InvalidForm ?xl_InvalidForm ?xsa_InvalidForm ?xty_InvalidForm ?xkc_InvalidForm ?xic_InvalidForm ?xnp_InvalidForm ?xnn_InvalidForm ?xhg_InvalidForm ?xhk_InvalidForm ?xhs_InvalidForm ?xhd_InvalidForm ?xha_InvalidForm ?xhn_InvalidForm ?xht_InvalidForm ?xhm_InvalidForm ?xrd_InvalidForm ?xfc_InvalidForm ?aC_OutOfOrder ?xl_OutOfOrder ?xsa_OutOfOrder ?xty_OutOfOrder ?xkc_OutOfOrder ?xic_OutOfOrder ?xnp_OutOfOrder ?xnn_OutOfOrder ?xhg_OutOfOrder ?xhk_OutOfOrder ?xhs_OutOfOrder ?xhd_OutOfOrder ?xha_OutOfOrder ?xhn_OutOfOrder ?xht_OutOfOrder ?xhm_OutOfOrder ?xrd_OutOfOrder ?xfc_OutOfOrder ?xti ?xsv_MonochordError ?xsu_MonochordError_MonochordError ?xsu_MonochordError_InvalidForm ?xsu_MonochordError_OutOfOrder ?xsv_InvalidForm ?xsu_InvalidForm_MonochordError ?xsu_InvalidForm_InvalidForm ?xsu_InvalidForm_OutOfOrder ?xsv_OutOfOrder ?xsu_OutOfOrder_MonochordError ?xsu_OutOfOrder_InvalidForm ?xsu_OutOfOrder_OutOfOrder ?z_range ?z_len ?z_isinstance ?z_int ?z_bool ?z_min ?z_ValueError ?q_POINT_LENGTH ?r_POINT_LENGTH ?q_NO_SAMPLE ?r_NO_SAMPLE
    (case aC_MonochordError => k_is)
    (case aC_InvalidForm => k_is)
    (case aC_OutOfOrder => k_is)
    (case a1 => k_is)
    (case i1 => k_is)
    (case l1 => k_is)
    (case c1 => k_is)
    (case k1 => k_is)
    (case a2 => k_is)
    (case l2 => k_is)
    (case c2 => k_is)
    (case k2 => k_is)
    (case a3 => k_is)
    (case l3 => k_is)
    (case c3 => k_is)
    (case k3 => k_is)
    (case a4 => k_is)
    (case l4 => k_is)
    (case c4 => k_is)
    (case k4 => k_is)
    (case a5 => k_is)
    (case l5 => k_is)
    (case c5 => k_is)
    (case k5 => k_is)
    (case a6 => k_is)
    (case l6 => k_is)
    (case c6 => k_is)
    (case k6 => k_is)
    (case a7 => k_is)
    (case l7 => k_is)
    (case c7 => k_is)
    (case k7 => k_is)
    (case a8 => k_is)
    (case l8 => k_is)
    (case c8 => k_is)
    (case k8 => k_is)
    (case a9 => k_is)
    (case l9 => k_is)
    (case c9 => k_is)
    (case k9 => k_is)
    (case a10 => k_is)
    (case l10 => k_is)
    (case c10 => k_is)
    (case k10 => k_is)
    (case a11 => k_is)
    (case l11 => k_is)
    (case c11 => k_is)
    (case k11 => k_is)
    (case a12 => k_is)
    (case l12 => k_is)
    (case c12 => k_is)
    (case k12 => k_is)
    (case a13 => k_is)
    (case l13 => k_is)
    (case c13 => k_is)
    (case k13 => k_is)
    (case a14 => k_is)
    (case l14 => k_is)
    (case c14 => k_is)
    (case k14 => k_is)
    (case a15 => k_is)
    (case l15 => k_is)
    (case c15 => k_is)
    (case k15 => k_is)
    (case xl_MonochordError => k_is)
    (case xsa_MonochordError => k_is)
    (case xty_MonochordError => k_is)
    (case xkc_MonochordError => k_is)
    (case xic_MonochordError => k_is)
    (case xnp_MonochordError => k_is)
    (case xnn_MonochordError => k_is)
    (case xhg_MonochordError => k_is)
    (case xhk_MonochordError => k_is)
    (case xhs_MonochordError => k_is)
    (case xhd_MonochordError => k_is)
    (case xha_MonochordError => k_is)
    (case xhn_MonochordError => k_is)
    (case xht_MonochordError => k_is)
    (case xhm_MonochordError => k_is)
    (case xrd_MonochordError => k_is)
    (case xfc_MonochordError => k_is)
    (case xl_InvalidForm => k_is)
    (case xsa_InvalidForm => k_is)
    (case xty_InvalidForm => k_is)
    (case xkc_InvalidForm => k_is)
    (case xic_InvalidForm => k_is)
    (case xnp_InvalidForm => k_is)
    (case xnn_InvalidForm => k_is)
    (case xhg_InvalidForm => k_is)
    (case xhk_InvalidForm => k_is)
    (case xhs_InvalidForm => k_is)
    (case xhd_InvalidForm => k_is)
    (case xha_InvalidForm => k_is)
    (case xhn_InvalidForm => k_is)
    (case xht_InvalidForm => k_is)
    (case xhm_InvalidForm => k_is)
    (case xrd_InvalidForm => k_is)
    (case xfc_InvalidForm => k_is)
    (case xl_OutOfOrder => k_is)
    (case xsa_OutOfOrder => k_is)
    (case xty_OutOfOrder => k_is)
    (case xkc_OutOfOrder => k_is)
    (case xic_OutOfOrder => k_is)
    (case xnp_OutOfOrder => k_is)
    (case xnn_OutOfOrder => k_is)
    (case xhg_OutOfOrder => k_is)
    (case xhk_OutOfOrder => k_is)
    (case xhs_OutOfOrder => k_is)
    (case xhd_OutOfOrder => k_is)
    (case xha_OutOfOrder => k_is)
    (case xhn_OutOfOrder => k_is)
    (case xht_OutOfOrder => k_is)
    (case xhm_OutOfOrder => k_is)
    (case xrd_OutOfOrder => k_is)
    (case xfc_OutOfOrder => k_is)
    (case xti => k_is)
    (case xsv_MonochordError => k_is)
    (case xsu_MonochordError_MonochordError => k_is)
    (case xsu_MonochordError_InvalidForm => k_is)
    (case xsu_MonochordError_OutOfOrder => k_is)
    (case xsv_InvalidForm => k_is)
    (case xsu_InvalidForm_MonochordError => k_is)
    (case xsu_InvalidForm_InvalidForm => k_is)
    (case xsu_InvalidForm_OutOfOrder => k_is)
    (case xsv_OutOfOrder => k_is)
    (case xsu_OutOfOrder_MonochordError => k_is)
    (case xsu_OutOfOrder_InvalidForm => k_is)
    (case xsu_OutOfOrder_OutOfOrder => k_is)
    (case z_range => k_is)
    (case z_len => k_is)
    (case z_isinstance => k_is)
    (case z_int => k_is)
    (case z_bool => k_is)
    (case z_min => k_is)
    (case z_ValueError => k_is)
    (case q_POINT_LENGTH => k_is)
    (case r_POINT_LENGTH => first | rfl | exact ⟨_, rfl⟩)
    (case q_NO_SAMPLE => k_is)
    (case r_NO_SAMPLE => first | rfl | exact ⟨_, rfl⟩)
