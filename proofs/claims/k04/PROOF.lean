import PyProof.Rows.All
import Wide.All
import OpenK.AllK
import Wide.FinOn
import HandS.ForMost
import HandS.Steps
import HandS.Evl
import HandS.IsInst
import HandS.Defaults
import HandS.Wide
import HandS.WideBits
import HandS.ForExc
import HandS.ExcInit
import HandS.ExcIs
import HandS.ExcField
import HandS.ExcOwn
import HandS.ExcBuiltin
import HandS.ExcCtx
import HandS.HotCalls
import HandS.WordsExc
import KE.KTypeName
import PySem.Challenge.RW_monochord_k04_whole_fields_come_back
set_option Elab.async false
set_option linter.all false
set_option maxRecDepth 100000
set_option maxHeartbeats 4000000
/-! ### own errors: the class's name, an error's class, its fields, isinstance -/
namespace PySem
namespace ExqW
open PySem.W PySem.Calls PyProof.Rows Builtin Builtin.ObjectAttr Builtin.Getset_descriptor
section
variable {prog : Program} {w : World} {A : Around} {E : Value → Shared → Prop} {s : Shared} {K : Frag} {x D C : Addr} {ox : Obj} {R : Result → Shared → Prop}
theorem exq_class {od : Option Obj} {expr : Bool} {Q : Value → Shared → Prop} (hga : findIn K (.ref D) "__getattribute__" = some (some (.builtin "BaseException.__getattribute__"))) (hgt : findIn K (.ref D) "__getattr__" = some none) (hsub : subIn K (.ref D) (.type "BaseException") = some true)
    (hf : findObj K D od "__class__" = some (.bind (.builtin "getset_descriptor.__get__") (.builtin "object.__class__"))) (hm : mroIn K D (.type "object") = some true)
    (X : K.In s.heap) (I : InstAt s.heap x ox D od) (h : Q (.ref D) { s with toks := s.toks + 1 }) : wpAny (model prog w) A (getAttr (.ref x) "__class__" expr) Q E s := by
  obtain ⟨hp, g, d, t, os⟩ := s
  have L0 := I.type (M := model prog w)
  have L1 := looks_findIn (M := model prog w) X hga
  have L2 := looks_findIn (M := model prog w) X hgt
  have L3 := looks_find (M := model prog w) X I hf
  have sub : Looks (model prog w) hp (isInstance (.ref x) (.type "BaseException")) true := L0.andThen (looks_subIn X hsub)
  have hx0 : (expr && onTheHeap (Value.builtin "BaseException.__getattribute__")) = false := by cases expr <;> rfl
  have hx2 : (Value.builtin "BaseException.__getattribute__" == Value.builtin "object.__getattribute__") = false := by decide +kernel
  have hx1 : (onTheHeap (Value.ref D) && Value.builtin "BaseException.__getattribute__" == Value.builtin "object.__getattribute__") = false := by rw [hx2]; rfl
  unfold getAttr getAttrBy
  refine wpAny_bind (wpAny_mkText (wpAny_holding (wpAny_bind (L0.at (wpAny_bind (L1.at ?_))))))
  show wpAny _ _ (if (onTheHeap (Value.ref D) && Value.builtin "BaseException.__getattribute__" == Value.builtin "object.__getattribute__") = true then _ else _) _ _ _
  rw [hx1, if_neg Bool.false_ne_true]
  unfold getAttrByItsOwn hookBefore
  refine wpAny_bind ?_
  rw [if_pos (show onTheHeap (Value.ref D) = true from rfl)]
  refine L2.at ?_
  refine wpAny_bind (wpAny_attempt (wpAny_holding ?_))
  unfold callGetattribute
  rw [hx0, if_neg Bool.false_ne_true]
  unfold boundAndCalled
  rw [PySem.F.excAttr_ValueError.ga.bind (.ref x)]
  refine wpAny_bind (wpAny_pure ?_)
  show wpAny _ _ (call (.builtin "BaseException.__getattribute__") [.ref x, .str "__class__" t]) _ _ _
  refine wpAny_call (codeAny_call_builtin PySem.F.excAttr_ValueError.ga.plain PySem.F.entry_bexc_ga ?_)
  refine @check_slot (model prog w) _ _ ⟨hp, g, d, t + 1, os⟩ "BaseException.__getattribute__" "BaseException" "__getattribute__" (.ref x) [.str "__class__" t] [] _ (by decide +kernel) (by decide +kernel) sub (PySem.F.args_bexc_ga (.ref x) (.str "__class__" t)) ?_
  unfold Builtin.«object.__getattribute__»
  refine wpAny_bind (wpAny_of_eq (a := ((Value.ref x : Value), [Value.str "__class__" t])) (by first | rfl | (simp only [slotArgs]; rfl)) ?_)
  refine wpAny_bind (wpAny_pure (wpAny_bind (L0.at (wpAny_bind (L3.at ?_)))))
  show wpAny _ _ (holding [Value.builtin "object.__class__"] (call (.builtin "getset_descriptor.__get__") [.builtin "object.__class__", .ref x, .ref D]) >>= ret) _ _ _
  refine wpAny_bind (wpAny_holding (wpAny_call (class_get (s := ⟨hp, g, d, t + 1, os⟩) (ox := ox) (od := od) X I hm ?_)))
  refine wpAny_pure ?_
  show wpAny _ _ (handedOut (.ref D)) _ _ _
  rw [handedOut_of (v := .ref D) rfl]
  first
    | exact wpAny_pure (wpAny_pure h)
    | exact wpAny_pure h
    | exact wpAny_pure (wpAny_bind (wpAny_pure (wpAny_pure h)))
theorem exq_classQ {od : Option Obj} {Q : Option Value → Shared → Prop} (hga : findIn K (.ref D) "__getattribute__" = some (some (.builtin "BaseException.__getattribute__"))) (hgt : findIn K (.ref D) "__getattr__" = some none) (hsub : subIn K (.ref D) (.type "BaseException") = some true)
    (hf : findObj K D od "__class__" = some (.bind (.builtin "getset_descriptor.__get__") (.builtin "object.__class__"))) (hm : mroIn K D (.type "object") = some true)
    (X : K.In s.heap) (I : InstAt s.heap x ox D od) (h : Q (some (.ref D)) { s with toks := s.toks + 1 }) : wpAny (model prog w) A (getAttr? (.ref x) "__class__") Q E s := by
  obtain ⟨hp, g, d, t, os⟩ := s
  have L0 := I.type (M := model prog w)
  have L1 := looks_findIn (M := model prog w) X hga
  have L2 := looks_findIn (M := model prog w) X hgt
  have L3 := looks_find (M := model prog w) X I hf
  have sub : Looks (model prog w) hp (isInstance (.ref x) (.type "BaseException")) true := L0.andThen (looks_subIn X hsub)
  have hx0 : (false && onTheHeap (Value.builtin "BaseException.__getattribute__")) = false := rfl
  have hx2 : (Value.builtin "BaseException.__getattribute__" == Value.builtin "object.__getattribute__") = false := by decide +kernel
  have hx1 : (onTheHeap (Value.ref D) && Value.builtin "BaseException.__getattribute__" == Value.builtin "object.__getattribute__") = false := by rw [hx2]; rfl
  unfold getAttr? getAttrBy? getAttrBy
  refine wpAny_bind (wpAny_mkText (wpAny_bind (wpAny_attempt (wpAny_holding (wpAny_bind (L0.at (wpAny_bind (L1.at ?_))))))))
  show wpAny _ _ (if (onTheHeap (Value.ref D) && Value.builtin "BaseException.__getattribute__" == Value.builtin "object.__getattribute__") = true then _ else _) _ _ _
  rw [hx1, if_neg Bool.false_ne_true]
  unfold getAttrByItsOwn hookBefore
  refine wpAny_bind ?_
  rw [if_pos (show onTheHeap (Value.ref D) = true from rfl)]
  refine L2.at ?_
  refine wpAny_bind (wpAny_attempt (wpAny_holding ?_))
  unfold callGetattribute
  rw [hx0, if_neg Bool.false_ne_true]
  unfold boundAndCalled
  rw [PySem.F.excAttr_ValueError.ga.bind (.ref x)]
  refine wpAny_bind (wpAny_pure ?_)
  show wpAny _ _ (call (.builtin "BaseException.__getattribute__") [.ref x, .str "__class__" t]) _ _ _
  refine wpAny_call (codeAny_call_builtin PySem.F.excAttr_ValueError.ga.plain PySem.F.entry_bexc_ga ?_)
  refine @check_slot (model prog w) _ _ ⟨hp, g, d, t + 1, os⟩ "BaseException.__getattribute__" "BaseException" "__getattribute__" (.ref x) [.str "__class__" t] [] _ (by decide +kernel) (by decide +kernel) sub (PySem.F.args_bexc_ga (.ref x) (.str "__class__" t)) ?_
  unfold Builtin.«object.__getattribute__»
  refine wpAny_bind (wpAny_of_eq (a := ((Value.ref x : Value), [Value.str "__class__" t])) (by first | rfl | (simp only [slotArgs]; rfl)) ?_)
  refine wpAny_bind (wpAny_pure (wpAny_bind (L0.at (wpAny_bind (L3.at ?_)))))
  show wpAny _ _ (holding [Value.builtin "object.__class__"] (call (.builtin "getset_descriptor.__get__") [.builtin "object.__class__", .ref x, .ref D]) >>= ret) _ _ _
  refine wpAny_bind (wpAny_holding (wpAny_call (class_get (s := ⟨hp, g, d, t + 1, os⟩) (ox := ox) (od := od) X I hm ?_)))
  refine wpAny_pure ?_
  show wpAny _ _ (handedOut (.ref D)) _ _ _
  rw [handedOut_of (v := .ref D) rfl]
  first
    | exact wpAny_pure (wpAny_pure h)
    | exact wpAny_pure h
    | exact wpAny_pure (wpAny_bind (wpAny_pure (wpAny_pure h)))
theorem exq_dga (d tp : Value) (C : Addr) : descrGetArgs ⟨[d, .ref C, tp], []⟩ = pure (d, some (.ref C), given tp) := by kernel_rfl
theorem exq_name_get {tp v : Value} {oC : Obj} (X : K.In s.heap) (ht : typeIn K (.ref C) = some (.type "type")) (hC : K.lookup C = some oC) (hv : (oC.slots[2]?).join = some v) (h : R (.ok (.ret v)) s) :
    codeAny (model prog w) A (.call (.builtin "getset_descriptor.__get__") ⟨[.builtin "type.__name__", .ref C, tp], []⟩) R s := by
  obtain ⟨hh, g, dr, t, os⟩ := s
  have L0 : Looks (model prog w) hh (typeOf (.ref C)) (.type "type") := looks_typeIn X ht
  have L1 : Looks (model prog w) hh (isSubtype (.type "type") (.type "type")) true := Looks.of_pure (by rw [isSubtype_type]; kernel_rfl)
  refine codeAny_call_builtin KF.slot_gs.plain KF.entry_gs (KF.slot_gs.check _ _ _ _ _ _ _ _ ktyn_type (KF.args_gs _ _ _) ?_)
  unfold Builtin.«getset_descriptor.__get__» descrGet
  rw [exq_dga]
  refine wpAny_bind (wpAny_pure ?_)
  unfold descrGetter descrCheckInstance descrNameAndClass isInstance
  simp only [ktyn_owner]
  repeat lk
  refine ⟨Code.quiet_builtin _ (by decide +kernel), codeAny_builtin ktyn_entry ?_⟩
  unfold Builtin.«type.__name__»
  dsimp only
  unfold Builtin.keptObject slotAt
  dsimp only
  refine wpAny_bind (wpAny_bind (wpAny_loadPart (X _ _ hC) (wpAny_pure ?_)))
  rw [hv]
  dsimp only
  unfold ret
  first
    | exact wpAny_bind (wpAny_pure (wpAny_pure h))
    | exact wpAny_pure h
    | exact wpAny_bind (wpAny_pure h)
theorem exq_name {oC : Obj} {v : Value} {expr : Bool} {Q : Value → Shared → Prop} (X : K.In s.heap) (hr : readsIn K C (.type "type") = true)
    (e : findCls K (.ref C) (.type "type") "__name__" = some (.get (.builtin "getset_descriptor.__get__") (.builtin "type.__name__") (.ref C) (.type "type"))) (ht : typeIn K (.ref C) = some (.type "type")) (hC : K.lookup C = some oC) (hv : (oC.slots[2]?).join = some v) (hh : handedIn v = true)
    (h : Q v { s with toks := s.toks + 1 }) : wpAny (model prog w) A (getAttr (.ref C) "__name__" expr) Q E s :=
  cls_bind X hr e (wpAny_call (exq_name_get (s := { s with toks := s.toks + 1 }) X ht hC hv (handed_on hh h)))
theorem exq_kitx {od : Option Obj} (hga : findIn K (.ref D) "__getattribute__" = some (some (.builtin "BaseException.__getattribute__"))) (hgt : findIn K (.ref D) "__getattr__" = some none) (hsub : subIn K (.ref D) (.type "BaseException") = some true) (hdct : hasDictIn K D = true)
    (hf : findObj K D od "__class__" = some (.bind (.builtin "getset_descriptor.__get__") (.builtin "object.__class__"))) (hm : mroIn K D (.type "object") = some true) :
    KitX K (.ref x) (.ref D) (fun h => InstAt h x ox D od) where
  ty := fun _ _ _ I => I.type
  it := fun _ _ X _ => by
    obtain ⟨cdD, hcD, _⟩ := any_some hdct
    unfold clsIn at hcD
    split at hcD
    · rename_i c' d' cd' sl' ho
      intro A' Q' E' s' k q
      unfold isType loadHead
      exact wpAny_bind (wpAny_loadPart (k _ _ (X _ _ ho)) (wpAny_pure q))
    · cases hcD
  ne := fun h tp dd its n sl X htp => by
    obtain ⟨cdD, hcD, _⟩ := any_some hdct
    refine Bool.eq_false_iff.mpr fun q => ?_
    have e : D = tp := Value.ref.inj (beq_iff_eq.mp q)
    subst e
    unfold clsIn at hcD
    split at hcD
    · rename_i c' d' cd' sl' ho
      have z := (X _ _ ho).symm.trans htp
      cases z
    · cases hcD
  ca := fun X I k => exq_classQ hga hgt hsub hf hm X I k
end
end ExqW
end PySem
namespace L2
open PySem PySem.Spec PyProof.Rows
/-- what the written part says of an own error class at C (its name nm), whose __init__ stands at fI -/
structure ExK (K : PySem.W.Frag) (C fI : Addr) (nm : Str) : Prop where
  cls : ∃ n q N bs bm sn sub ab col dd k0 k1 tk k3 k5, K.lookup C = some (excClassObj n q C N bs bm true sn sub ab col dd k0 k1 (some (.str nm tk)) k3 k5 "ValueError.__new__") ∧ PySem.HandSPX.refsVE bm = true
  sa : PySem.W.findIn K (.ref C) "__setattr__" = some (some (.builtin "object.__setattr__"))
  tyC : PySem.W.typeIn K (.ref C) = some (.type "type")
  kC : PySem.W.keepIn K (.ref C) = true
  iC : PySem.W.findIn K (.ref C) "__init__" = some (some (.ref fI))
  nP : PySem.W.findIn K (.ref C) "place" = some none
  nN : PySem.W.findIn K (.ref C) "name" = some none
  ex : ExcC K C
  rd : PySem.W.readsIn K C (.type "type") = true
  fc : PySem.W.findCls K (.ref C) (.type "type") "__name__" = some (.get (.builtin "getset_descriptor.__get__") (.builtin "type.__name__") (.ref C) (.type "type"))
section
variable {K : PySem.W.Frag} {C fI : Addr} {nm : Str}
theorem ExK.ox (T : ExK K C fI nm) : OexC K C := by
  obtain ⟨n, q, N, bs, bm, sn, sub, ab, col, dd, k0, k1, tk, k3, k5, h1, h2⟩ := T.cls
  exact ⟨⟨n, q, N, bs, bm, sn, sub, ab, col, dd, k0, k1, _, k3, k5, h1, h2⟩, T.sa, T.ex.hs, T.tyC, T.kC⟩
theorem ExK.xf (T : ExK K C fI nm) : XfC K C := ⟨T.ex.hg, T.ex.hk, T.ex.hs, T.ex.hd⟩
end
theorem ExcC.fo {K : PySem.W.Frag} {C : Addr} (T : ExcC K C) (od : Obj) : PySem.W.findObj K C (some od) "__class__" = some (.bind (.builtin "getset_descriptor.__get__") (.builtin "object.__class__")) :=
  PySem.W.findObj_data (by obtain ⟨cd, hc, _⟩ := PySem.W.any_some T.hd; show (PySem.W.clsIn K C).isSome = true; rw [hc]; rfl) T.ha T.hn T.ht
/-- self.__class__.__name__ of an error that is being made -/
def tCN (K : PySem.W.Frag) (te : TE) : TE := fun σ H Q => te σ H fun x H1 => ∃ (a C dx : Addr) (fs : List (Str × V)) (fI : Addr) (nm : Str), x = .ref a ∧ ExK K C fI nm ∧ H1 a = some (exo a C (some dx)) ∧ H1 dx = some (exd dx fs) ∧ Q (.str nm) H1
theorem pe_clsname {X : Cx} {o : Expr} {te : TE} {p1 p2 : Pos} (he : PE X o te) (hb1 : attributeBase o "__class__" X.env (eval o X.env) = eval o X.env := by rfl)
    (hb2 : attributeBase (.Attribute o "__class__" p1) "__name__" X.env (eval (.Attribute o "__class__" p1) X.env) = eval (.Attribute o "__class__" p1) X.env := by rfl) :
    PE X (.Attribute (.Attribute o "__class__" p1) "__name__" p2) (tCN X.K te) := by
  refine ⟨fun pins s σ H Q I h => ?_⟩
  refine attr_of hb2 (attr_of hb1 (thn (he.run pins s σ H _ I h) fun u s1 ⟨x, H1, I1, rx, a, C, dx, fs, fI, nm, ex, T, ea, ed, q⟩ => ?_))
  subst ex
  obtain rfl : u = Value.ref a := rx
  obtain ⟨t1, ho⟩ := exo_at I1.hok ea
  obtain ⟨mA, hns, rel⟩ := exd_at I1.hok ed
  obtain ⟨oD, _, _, hoD, _, _⟩ := id hns
  have J : PySem.W.InstAt s1.heap a { cls := .ref C, dict := some dx, data := .fields #[.ref t1, .none, .none, .none, .bool false, .none] } C (some oD) := ⟨ho, rfl, rfl, hoD⟩
  obtain ⟨n, qq, N, bs, bm, sn, sub, ab, col, dd, k0, k1, tk, k3, k5, hC, hbm⟩ := T.cls
  refine PySem.ExqW.exq_class T.ex.hg T.ex.hk T.ex.hs (T.ex.fo oD) T.ex.hm I1.kIn J ?_
  refine PySem.ExqW.exq_name (s := { s1 with toks := s1.toks + 1 }) I1.kIn T.rd T.fc T.tyC hC rfl rfl ?_
  exact ⟨.str nm, H1, I1.tok _, ⟨tk, rfl⟩, q⟩
/-- error.f in an except suite: the class is known when it runs -/
def tXfA (K : PySem.W.Frag) (a : Addr) (cls : Value) (d : Option Addr) (f : Str) (te : TE) : TE := fun σ H Q => te σ H fun x H1 => x = .ref a ∧ ∃ C, cls = .ref C ∧ XfC K C ∧ PySem.W.findIn K (.ref C) f = some none ∧ ∃ (dd : Addr) (fs : List (Str × V)) (v : V), d = some dd ∧ H1 dd = some (.xd fs) ∧ fs.lookup f = some v ∧ Q v H1
theorem pe_xfA {X : Cx} {a : Addr} {oe : Obj} {cls : Value} {d : Option Addr} {pn : List (Addr × Obj)} {e : Expr} {te : TE} {pos : Pos} {n : Str}
    (hz : Zc cls d oe) (hf : ∃ vs, oe.data = .fields vs) (he : PE (X.suite a ((a, oe) :: pn)) e te) (hb : attributeBase e n X.env (eval e X.env) = eval e X.env := by rfl) :
    PE (X.suite a ((a, oe) :: pn)) (.Attribute e n pos) (tXfA X.K a cls d n te) := by
  refine ⟨fun pins s σ H Q I h => ?_⟩
  refine attr_of hb (thn (he.run pins s σ H _ I h) fun u s1 hh => ?_)
  obtain ⟨x, H1, I1, rx, ex, C, ec, T, hno, dd, fs, v, ed, ea, l, q⟩ := hh
  subst ex
  obtain rfl : u = Value.ref a := rx
  subst ec
  subst ed
  obtain ⟨ha, _⟩ := I1.pin (a, oe) (List.mem_append_left _ List.mem_cons_self)
  obtain ⟨vs, hd⟩ := hf
  have hx : ObjOk X.prog X.w H1 s1.heap dd (.xd fs) := I1.hok dd _ ea
  obtain ⟨mA, hns, hr⟩ := hx
  obtain ⟨od, ho, hl⟩ := lookIn_ns hns
  obtain ⟨u, hu, ru⟩ := RelO.some_of (v := v) (o := mA n) (by rw [← l]; exact hr n)
  have J : PySem.W.InstAt s1.heap a oe C (some od) := ⟨ha, hz.1, by unfold PySem.W.notCls; rw [hd] <;> rfl, by rw [hz.2]; exact ho⟩
  exact HandSPX.exc_get I1.kIn J T.ga T.gg T.exC (PySem.W.findObj_own T.hdC hno rfl (by rw [hl, hu])) (handed_of ru) ⟨v, H1, I1.tok _, ru, q⟩
/-- isinstance(error, c) in an except suite -/
def rIsA (K : PySem.W.Frag) (cls : Value) (d : Option Addr) (a : Addr) : List V → Hp → VK → Prop := fun xs H Q => ∃ (C : Addr) (c : V) (cv : Value) (b : Bool) (dd : Addr) (fs : List (Str × V)), cls = .ref C ∧ ExcC K C ∧ d = some dd ∧ H dd = some (.xd fs) ∧ xs = [.ref a, c] ∧ (∀ u, RelV c u → u = cv) ∧ PySem.W.kitOne K (.ref C) cv = some b ∧ Q (.bl b) H
theorem call_isA {X : Cx} {a : Addr} {oe : Obj} {cls : Value} {d : Option Addr} {pn : List (Addr × Obj)} (hz : Zc cls d oe) (hf : ∃ vs, oe.data = .fields vs) : CallR (X.suite a ((a, oe) :: pn)) (.builtin "isinstance") (rIsA X.K cls d a) := by
  intro pins s σ H xs us Q I r h
  obtain ⟨C, c, cv, b, dd, fs, ec, T, ed, ea, rfl, hcv, e, q⟩ := h
  subst ec
  subst ed
  cases r with
  | cons rx rr =>
    cases rr with
    | cons rt rr =>
      cases rr
      cases rx
      have ecv := hcv _ rt
      subst ecv
      obtain ⟨hget, _⟩ := I.pin (a, oe) (List.mem_append.mpr (.inl List.mem_cons_self))
      obtain ⟨vs, hv⟩ := hf
      have hx : ObjOk X.prog X.w H s.heap dd (.xd fs) := I.hok dd _ ea
      obtain ⟨mA, ⟨od, es, ep, ho, hl⟩, hr⟩ := hx
      have J : PySem.W.InstAt s.heap a oe C (some od) := ⟨hget, hz.1, by unfold PySem.W.notCls; rw [hv] <;> rfl, by rw [hz.2]; exact ho⟩
      exact PySem.W.kia_one (PySem.ExqW.exq_kitx T.hg T.hk T.hs T.hd (T.fo od) T.hm) I.kIn J e (fun z => nomatch z) fun tk => ⟨.bl b, H, I.kept (t' := tk) fun _ _ z => z, rfl, q⟩
/-! ### calls that may let an error out -/
section
variable {X : Cx} {CX : CXT} {k : Nat} {f C : Addr} {fd : FuncData} {ps : List Str} {sp : Sp} {dvs : List V} {ds : List Value} {E : St → XK} {x m : Str} {p pos apos : Pos} {e o : Expr} {es : List Expr} {ta : TE} {t : TA}
theorem run_fnD {pins : List (Addr × Obj)} {σ : St} {H : Hp} {s : Shared} {Q : VK} {us : List Value} {vs : List V} (F : FnOk X.prog X.w X.K X.mg X.base CX k f fd ps sp) (hr : Room k X.A) (hb : Binds X.K fd ps ds) (hd : Vals dvs ds) (hx : PassesAt CX X σ (E σ))
    (I : Inv X pins σ H s) (r : Vals vs us) (h : sp (vs ++ dvs) H Q (E σ)) : wpAny (model X.prog X.w) X.A (call (.ref f) us) (EP X pins σ Q) X.xe s := by
  have r2 : Vals (vs ++ dvs) (us ++ ds) := r.append hd
  have hl : (us ++ ds).length = ps.length := by rw [← r2.length]; exact F.len _ _ _ _ h
  refine wpAny_call (codeAny_mono (F.run X.A X.stack s H ⟨us, []⟩ (us ++ ds) (vs ++ dvs) Q (E σ) hr I.env0 (hb s us I.kIn hl) r2 h) fun r s' hq => ?_)
  cases r with
  | error e => exact hx pins H s e s' I hq
  | ok fl =>
    cases fl with
    | ret u => exact I.after hq
    | next => exact False.elim hq
    | brk => exact False.elim hq
    | cont => exact False.elim hq
def tCallX (sp : Sp) (dvs : List V) (E : St → XK) (t : TA) : TE := fun σ H Q => t σ H fun vs H1 => sp (vs ++ dvs) H1 Q (E σ)
theorem pe_callX (F : FnOk X.prog X.w X.K X.mg X.base CX k f fd ps sp) (hr : Room k X.A) (hg : Gl X x) (hm : X.mg x = some (.ref f)) (hk : PySem.W.keepIn X.K (.ref f) = true) (hb : Binds X.K fd ps ds) (hd : Vals dvs ds) (hx : ∀ σ, PassesAt CX X σ (E σ))
    (ha : PA X (e :: es) t) (hdb : (x == ("__debug__" : Str)) = false := by decide) (he : starEach (e :: es) X.env = (false, eval e X.env) :: starEach es X.env := by rfl) (hpl : (backTo pos (starEach es X.env)).any (·.1) = false := by rfl) :
    PE X (.Call (.Name x p) (e :: es) [] pos) (tCallX sp dvs E t) := by
  refine ⟨fun pins s σ H Q I h => ?_⟩
  refine wpAny_Call_Name_kw (ld_glob I hg hm ?_ hdb)
  refine PySem.W.callWith_K (h₀ := X.base) I.ok.mod.kin hk (thn (ha.run pos pins s σ H _ I h) fun us s1 ⟨vs, H1, I1, r, q⟩ => ⟨I1.kIn, ?_⟩) he hpl
  exact run_fnD F hr hb hd (hx σ) I1 r q
/-- o.m(..) -/
def tMethX (C : Addr) (m : Str) (sp : Sp) (dvs : List V) (E : St → XK) (ta : TE) (t : TA) : TE := fun σ H Q => ta σ H fun x H1 => ∃ a dx fs, x = .ref a ∧ H1 a = some (.ins C dx fs) ∧ fs.lookup m = none ∧
  t σ H1 fun vs H2 => sp (x :: (vs ++ dvs)) H2 Q (E σ)
theorem pe_methX {pl : Sem Bool} (he : PE X o ta) (c : Cls X.K C) (hm : Meth X.K C m f) (F : FnOk X.prog X.w X.K X.mg X.base CX k f fd ps sp) (hr : Room k X.A) (hb : Binds X.K fd ps ds) (hd : Vals dvs ds) (hx : ∀ σ, PassesAt CX X σ (E σ)) (ha : PA X (e :: es) t)
    (hst : starEach (e :: es) X.env = (false, eval e X.env) :: starEach es X.env := by rfl) (hpl : (backTo pos (starEach es X.env)).any (·.1) = false := by rfl)
    (ht : eval (.Call (.Attribute o m apos) (e :: es) [] pos) X.env = (do
      let ov ← eval o X.env
      standAt apos.atName
      let (f, first) ← holding [ov] (getMethod ov m pl)
      callWith pos f first (backTo pos (starEach (e :: es) X.env)) (backToKw pos (keywordEach [] X.env))) := by rfl) :
    PE X (.Call (.Attribute o m apos) (e :: es) [] pos) (tMethX C m sp dvs E ta t) := by
  refine ⟨fun pins s σ H Q I h => ?_⟩
  refine PySem.W.methodCall_KW (pl := pl) (thn (he.run pins s σ H _ I h) fun u s1 ⟨x, H1, I1, rx, a, dx, fs, ex, ea, l, q⟩ => ?_) ht
  subst ex
  obtain rfl : u = Value.ref a := rx
  refine getmeth_ok I1 ea c hm l ?_
  refine PySem.W.callWith_K (first := [.ref a]) (h₀ := X.base) I.ok.mod.kin hm.kp (thn (ha.run pos pins s1 σ H1 _ I1 q) fun us s2 ⟨vs, H2, I2, r, q2⟩ => ⟨I2.kIn, ?_⟩) hst hpl
  exact run_fnD (us := .ref a :: us) (vs := .ref a :: vs) F hr hb hd (hx σ) I2 (.cons rfl r) q2
theorem pe_methX0 {pl : Sem Bool} (he : PE X o ta) (c : Cls X.K C) (hm : Meth X.K C m f) (F : FnOk X.prog X.w X.K X.mg X.base CX k f fd ps sp) (hr : Room k X.A) (hb : Binds X.K fd ps ds) (hd : Vals dvs ds) (hx : ∀ σ, PassesAt CX X σ (E σ))
    (ht : eval (.Call (.Attribute o m apos) [] [] pos) X.env = (do
      let ov ← eval o X.env
      standAt apos.atName
      let (f, first) ← holding [ov] (getMethod ov m pl)
      callWith pos f first (backTo pos (starEach [] X.env)) (backToKw pos (keywordEach [] X.env))) := by rfl) :
    PE X (.Call (.Attribute o m apos) [] [] pos) (tMethX C m sp dvs E ta tNil) := by
  refine ⟨fun pins s σ H Q I h => ?_⟩
  refine PySem.W.methodCall_KW (pl := pl) (thn (he.run pins s σ H _ I h) fun u s1 ⟨x, H1, I1, rx, a, dx, fs, ex, ea, l, q⟩ => ?_) ht
  subst ex
  obtain rfl : u = Value.ref a := rx
  refine getmeth_ok I1 ea c hm l ?_
  exact PySem.W.callWith_K0 (first := [.ref a]) I1.kIn hm.kp (run_fnD (us := [.ref a]) (vs := [.ref a]) F hr hb hd (hx σ) I1 (.cons rfl .nil) q)
end
/-! ### readings -/
def ErrD (H : Hp) (d : Addr) (nm : Str) (n : Int) : Prop := H d = some (.xd [("name", .str nm), ("place", .int n)])
theorem ErrD.ex {H H' : Hp} {d : Addr} {nm : Str} {n : Int} (e : Evl.Ex H H') (h : ErrD H d nm n) : ErrD H' d nm n := e _ _ h
def sp_einit (K : PySem.W.Frag) : Sp := fun vs H Q _ => ∃ (a C fI : Addr) (nm : Str) (n : Int), vs = [.ref a, .int n] ∧ ExK K C fI nm ∧ H a = some (exo a C none) ∧
  ∀ dx H', H dx = none → dx ≠ a → (∀ b o, b ≠ a → H b = some o → H' b = some o) → H' a = some (exo a C (some dx)) → H' dx = some (exd dx [("name", .str nm), ("place", .int n)]) → Q .non H'
theorem mk_err {K : PySem.W.Frag} {C fI : Addr} {nm : Str} {σ : St} {H : Hp} {ta : TA} {n : Int} {Q : XK} (T : ExK K C fI nm) (h : Evl.EvA ta σ H [.int n]) (k : ∀ H' d, H d = none → Evl.Ex H H' → ErrD H' d nm n → Q (.ref C) (some d) H') : tMkO C (sp_einit K) [] ta σ H Q := by
  refine h H (Evl.Ex.refl H) _ fun H1 e1 => ⟨Nat.le_of_ble_eq_true rfl, fun a ha => ⟨a, C, fI, nm, n, rfl, T, upd_same, fun dx H2 hdx ne keep h2a h2d => ⟨rfl, dx, _, h2a, h2d, by rwa [upd_ne ne] at hdx, ?_⟩⟩⟩
  have hdx1 : H1 dx = none := by rwa [upd_ne ne] at hdx
  refine k _ dx (by cases hh : H dx with | none => rfl | some o => rw [e1 _ _ hh] at hdx1; cases hdx1) (fun b o hb => ?_) upd_same
  have hb1 := e1 _ _ hb
  have nb : b ≠ a := fun z => by rw [z, ha] at hb1; cases hb1
  have nd : b ≠ dx := fun z => by rw [z, hdx1] at hb1; cases hb1
  rw [upd_ne nd, del_ne nb]
  exact keep b o nb (by rw [upd_ne nb]; exact hb1)
end L2
namespace L2
open PySem PySem.Spec PyProof.Rows
/-! ### errors whose context is kept (L2N): calls within an except suite -/
theorem passN {X : Cx} : Passes (L2N.CX X.prog X.w) X E0 := fun _ _ _ _ _ _ _ h => by
  obtain ⟨_, _, _, _, _, _, _, _, _, _, _, _, z⟩ := h
  exact z.elim
theorem passH0 {X : Cx} {σ : St} : PassesAt CX0 X σ E0 := fun _ _ _ _ _ _ h => h.elim
theorem takesN0 {X : Cx} : L2N.Takes X (fun _ _ _ _ => False) := fun _ _ x => by
  obtain ⟨_, _, _, _, _, _, _, _, _, _, _, _, _, _, _, _, z⟩ := x
  exact z.elim
section
variable {P : Program} {w : World} {K : PySem.W.Frag} {mg : Str → Option Value} {base : Heap}
theorem Fun.okN {x qual : Str} {st : Stmt} {f : Addr} {fd : FuncData} {N ps : List Str} {k : Nat} {sp : Sp} (F : Fun K x qual st f fd) (S : FnScope N ps (defScope st)) (len : ∀ vs H Q E, sp vs H Q E → vs.length = ps.length)
    (hbody : ∀ (cdv : Value) (A : Around) (outer : List Env) (s : Shared) (H : Hp) (vs : List V) (Q : VK) (E : XK), Room k (A.deeper (envOfC qual (defScope st) s.heap.objs.size f cdv)) → sp vs H Q E →
      ∃ t, PSs (cxOf (L2N.CX P w) P w K mg base N qual (defScope st) f cdv A outer s H E) (defBody st) t ∧ t { nx := fun _ H' => Q .non H', rt := Q } (start N vs) H) : FnOk P w K mg base (L2N.CX P w) (k + 1) f fd ps sp := by
  obtain ⟨_, _, _, _, _, _, cdv, _, _, rfl, lk, hcd⟩ := F.ex
  exact fn_of lk hcd S len fun A outer s H vs Q E => hbody cdv A outer s H vs Q E
/-- a def that is called while an exception is handled -/
theorem Fun.okH {x qual : Str} {st : Stmt} {f : Addr} {fd : FuncData} {N ps : List Str} {k : Nat} {sp : Sp} (F : Fun K x qual st f fd) (S : FnScope N ps (defScope st)) (len : ∀ vs H Q E, sp vs H Q E → vs.length = ps.length)
    (hbody : ∀ (cdv : Value) (A : Around) (outer : List Env) (s : Shared) (H : Hp) (vs : List V) (Q : VK) (E : XK) (p : Addr × Obj), L2H.RoomH k (A.deeper (envOfC qual (defScope st) s.heap.objs.size f cdv)) → sp vs H Q E →
      ∃ t, PSs (L2H.cxH CX0 P w K mg base N qual (defScope st) f cdv A outer s H E p) (defBody st) t ∧ t { nx := fun _ H' => Q .non H', rt := Q } (start N vs) H) : L2H.FnH P w K mg base CX0 (k + 1) f fd ps sp := by
  obtain ⟨_, _, _, _, _, _, cdv, _, _, rfl, lk, hcd⟩ := F.ex
  exact L2H.fn_ofH lk hcd S len fun A outer s H vs Q E p _ hr hsp => hbody cdv A outer s H vs Q E p hr hsp
end
theorem hot_of {X : Cx} {a : Addr} {oe : Obj} {cls : Value} {d : Option Addr} {pn : List (Addr × Obj)} (hz : L2N.Zn cls d oe) (hf : ∃ vs, oe.data = .fields vs) : L2H.HotC (X.suite a ((a, oe) :: pn)) := by
  obtain ⟨vs, e⟩ := hf
  exact ⟨(a, oe), ⟨rfl, vs, e, hz.2.2 vs e⟩, List.mem_cons_self⟩
theorem roomH_suite {X : Cx} {a : Addr} {pn : List (Addr × Obj)} {j k : Nat} (r : Room k X.A) (h : j ≤ k) : L2H.RoomH j (X.suite a pn).A := ⟨by have := r.dp; show X.A.depth + _ + 5 < _; omega, by have := r.un; show X.A.units + _ + 200 < _; omega⟩
section
variable {X : Cx} {CX : CXT} {k : Nat} {f C : Addr} {fd : FuncData} {ps : List Str} {sp : Sp} {dvs : List V} {ds : List Value} {E : St → XK} {x m : Str} {p pos apos : Pos} {e o : Expr} {es : List Expr} {ta : TE} {t : TA}
/-- o.m() while an exception is handled -/
theorem pe_methH0 {pl : Sem Bool} (he : PE X o ta) (c : Cls X.K C) (hm : Meth X.K C m f) (F : L2H.FnH X.prog X.w X.K X.mg X.base CX k f fd ps sp) (hr : L2H.RoomH k X.A) (hc : L2H.HotC X) (hb : Binds X.K fd ps []) (hx : ∀ σ, PassesAt CX X σ (E σ))
    (ht : eval (.Call (.Attribute o m apos) [] [] pos) X.env = (do
      let ov ← eval o X.env
      standAt apos.atName
      let (f, first) ← holding [ov] (getMethod ov m pl)
      callWith pos f first (backTo pos (starEach [] X.env)) (backToKw pos (keywordEach [] X.env))) := by rfl) :
    PE X (.Call (.Attribute o m apos) [] [] pos) (tMethX C m sp [] E ta tNil) := by
  refine ⟨fun pins s σ H Q I h => ?_⟩
  refine PySem.W.methodCall_KW (pl := pl) (thn (he.run pins s σ H _ I h) fun u s1 ⟨x, H1, I1, rx, a, dx, fs, ex, ea, l, q⟩ => ?_) ht
  subst ex
  obtain rfl : u = Value.ref a := rx
  refine getmeth_ok I1 ea c hm l ?_
  exact PySem.W.callWith_K0 (first := [.ref a]) I1.kIn hm.kp (L2H.run_fnH (us := [.ref a]) (vs := [.ref a]) F hr hc hb (hx σ) I1 (.cons rfl .nil) q)
/-- C(e, ..): an own error, made where nothing is handled -/
theorem pmkN_oex {CX : CXT} {x : Str} {C fI : Addr} {k : Nat} {fd : FuncData} {ps : List Str} {sp : Sp} {ds : List Value} {dvs : List V} (T : OexC X.K C) (iC : PySem.W.findIn X.K (.ref C) "__init__" = some (some (.ref fI))) (tI : PySem.W.typeIn X.K (.ref fI) = some (.type "function"))
    (F1 : FnOk X.prog X.w X.K X.mg X.base CX k fI fd ps sp) (hr : Room (k + 1) X.A) (hb : Binds X.K fd ps ds) (hd : Vals dvs ds) (hx : Passes CX X (fun _ _ _ => False)) (hg : Gl X x) (hm : X.mg x = some (.ref C)) (ha : PA X (e :: es) t)
    (hdb : (x == ("__debug__" : Str)) = false := by decide) (he : starEach (e :: es) X.env = (false, eval e X.env) :: starEach es X.env := by rfl) (hpl : (backTo pos (starEach es X.env)).any (·.1) = false := by rfl) :
    L2N.PMk X (.Call (.Name x p) (e :: es) [] pos) (tMkO C sp dvs t) := fun pins s σ H Q I h => by
  obtain ⟨_, _, _, _, bm, _, _, _, _, _, _, _, _, _, _, hC, hbm⟩ := T.cls
  refine wpAny_Call_Name_kw (ld_glob I hg hm (PySem.W.callWith_K (h₀ := X.base) I.ok.mod.kin T.kC (thn (ha.run pos pins s σ H _ I h) fun us s1 ⟨vs, H1, I1, r1, hz, q1⟩ => ⟨I1.kIn, ?_⟩) he hpl) hdb)
  show wpAny _ _ (call (.ref C) us) _ _ _
  obtain ⟨hp, g, dr, tk, os⟩ := s1
  obtain ⟨i, hi⟩ : ∃ i, i = hp.objs.size + 1 := ⟨_, rfl⟩
  have hsz : hp.objs.size ≤ i := by omega
  have hq := q1 i (I1.hok.fresh hsz)
  obtain ⟨G, hG⟩ : ∃ G, G = (hp.push (PySem.W.kdv_tup us)).push (PySem.HandSPX.excO C hp.objs.size) := ⟨_, rfl⟩
  have kk : ∀ b o, hp.get? b = some o → G.get? b = some o := fun b o z => by rw [hG]; exact Heap.get?_push_of_some _ (Heap.get?_push_of_some _ z)
  have I2 : Inv X pins σ (upd H1 i (exo i C none)) ⟨G, g, dr, tk, os⟩ := I1.laid (t' := tk) kk hsz (exo_ok (by rw [hG, hi]; heap_get))
  have r2 : Vals (V.ref i :: (vs ++ dvs)) (Value.ref i :: (us ++ ds)) := .cons rfl (r1.append hd)
  have hl : (Value.ref i :: us ++ ds).length = ps.length := (r2.length.symm.trans (F1.len _ _ _ _ hq))
  refine wpAny_call (PySem.HandSPX.call_own F.excBase_ValueError (fun Y => PySem.HandSPX.refsVE_contains Y bm hbm) (I1.kIn _ _ hC) (PySem.W.looks_findIn I1.kIn iC) (fun self => PySem.W.bind_fn I1.kIn self tI) (by rw [← Paired.length r1, sizeLine_eq]; omega) ?_)
  have F2 := F1.run _ X.stack _ _ ⟨Value.ref i :: us, []⟩ (Value.ref i :: (us ++ ds)) _ _ (fun _ _ _ => False) (hr.make C us []) (I2.env0.make C us []) (hb _ (Value.ref i :: us) I2.kIn hl) r2 hq
  subst hi
  subst hG
  refine codeAny_mono F2 fun r s' hq' => ?_
  cases r with
  | error er => exact hx pins σ _ _ er s' I2 hq'
  | ok fl =>
    cases fl with
    | ret u =>
      obtain ⟨v, H2, os2, bare2, un2, hok2, rv, ev, d, fs, ea, ed, hd1, q2⟩ := hq'
      subst ev
      obtain ⟨h2, g2, d2, t2, os'⟩ := s'
      obtain ⟨t0, G', J, kG, ge, hoe, na⟩ := mk_end0 (d2 := d2) (t2 := t2) I1 hsz kk un2 hok2 os2 bare2 ea ed hd1
      exact ⟨rv, _, _, _, ⟨G', g2, d2, t2, os'⟩, _, .ref C, some d, rfl, J, kG, ge, hoe, ⟨rfl, rfl, fun ws hw => by cases hw; rfl⟩, rfl, rfl, na, rfl, bare2, raises_own T.exC T.tyC, q2⟩
    | next => exact False.elim hq'
    | brk => exact False.elim hq'
    | cont => exact False.elim hq'
end
end L2

namespace K04
open PySem PySem.Spec PyProof.Rows L2 Evl
def topS (i : Nat) : Stmt := PySem.Challenge.pw_monochord_k04_whole_fields_come_back.main.body.getD i (.Pass ⟨0, 0, 0, 0⟩)
abbrev s_MonochordError_init : Stmt := inClass (topS 2) 0
theorem sc_MonochordError_init : FnScope ["self", "place"] ["self", "place"] (defScope s_MonochordError_init) := ⟨rfl, rfl, rfl, by decide +kernel, rfl, by decide +kernel, by decide +kernel⟩
abbrev s_BitWriter_init : Stmt := inClass (topS 7) 0
theorem sc_BitWriter_init : FnScope ["self"] ["self"] (defScope s_BitWriter_init) := ⟨rfl, rfl, rfl, by decide +kernel, rfl, by decide +kernel, by decide +kernel⟩
abbrev s_BitWriter_write : Stmt := inClass (topS 7) 1
theorem sc_BitWriter_write : FnScope ["self", "width", "value", "held", "held_bits"] ["self", "width", "value"] (defScope s_BitWriter_write) := ⟨rfl, rfl, rfl, by decide +kernel, rfl, by decide +kernel, by decide +kernel⟩
abbrev s_BitWriter_write_signed : Stmt := inClass (topS 7) 2
theorem sc_BitWriter_write_signed : FnScope ["self", "width", "value"] ["self", "width", "value"] (defScope s_BitWriter_write_signed) := ⟨rfl, rfl, rfl, by decide +kernel, rfl, by decide +kernel, by decide +kernel⟩
abbrev s_BitWriter_write_unary : Stmt := inClass (topS 7) 3
theorem sc_BitWriter_write_unary : FnScope ["self", "count", "zeros"] ["self", "count"] (defScope s_BitWriter_write_unary) := ⟨rfl, rfl, rfl, by decide +kernel, rfl, by decide +kernel, by decide +kernel⟩
abbrev s_BitWriter_pad : Stmt := inClass (topS 7) 4
theorem sc_BitWriter_pad : FnScope ["self"] ["self"] (defScope s_BitWriter_pad) := ⟨rfl, rfl, rfl, by decide +kernel, rfl, by decide +kernel, by decide +kernel⟩
abbrev s_BitWriter_append_bytes : Stmt := inClass (topS 7) 5
theorem sc_BitWriter_append_bytes : FnScope ["self", "data", "byte"] ["self", "data"] (defScope s_BitWriter_append_bytes) := ⟨rfl, rfl, rfl, by decide +kernel, rfl, by decide +kernel, by decide +kernel⟩
abbrev s_BitWriter_byte_list : Stmt := inClass (topS 7) 6
theorem sc_BitWriter_byte_list : FnScope ["self"] ["self"] (defScope s_BitWriter_byte_list) := ⟨rfl, rfl, rfl, by decide +kernel, rfl, by decide +kernel, by decide +kernel⟩
abbrev s_BitWriter_bits_written : Stmt := inClass (topS 7) 7
theorem sc_BitWriter_bits_written : FnScope ["self"] ["self"] (defScope s_BitWriter_bits_written) := ⟨rfl, rfl, rfl, by decide +kernel, rfl, by decide +kernel, by decide +kernel⟩
abbrev s_BitReader_init : Stmt := inClass (topS 8) 0
theorem sc_BitReader_init : FnScope ["self", "data", "at"] ["self", "data", "at"] (defScope s_BitReader_init) := ⟨rfl, rfl, rfl, by decide +kernel, rfl, by decide +kernel, by decide +kernel⟩
abbrev s_BitReader_read : Stmt := inClass (topS 8) 1
theorem sc_BitReader_read : FnScope ["self", "width", "data", "start", "stop", "last", "value", "byte"] ["self", "width"] (defScope s_BitReader_read) := ⟨rfl, rfl, rfl, by decide +kernel, rfl, by decide +kernel, by decide +kernel⟩
abbrev s_BitReader_read_signed : Stmt := inClass (topS 8) 2
theorem sc_BitReader_read_signed : FnScope ["self", "width", "value"] ["self", "width"] (defScope s_BitReader_read_signed) := ⟨rfl, rfl, rfl, by decide +kernel, rfl, by decide +kernel, by decide +kernel⟩
abbrev s_BitReader_read_unary : Stmt := inClass (topS 8) 3
theorem sc_BitReader_read_unary : FnScope ["self", "data", "place", "ahead", "one", "count"] ["self"] (defScope s_BitReader_read_unary) := ⟨rfl, rfl, rfl, by decide +kernel, rfl, by decide +kernel, by decide +kernel⟩
abbrev s_BitReader_read_bytes : Stmt := inClass (topS 8) 4
theorem sc_BitReader_read_bytes : FnScope ["self", "count", "data", "place", "_"] ["self", "count"] (defScope s_BitReader_read_bytes) := ⟨rfl, rfl, rfl, by decide +kernel, rfl, by decide +kernel, by decide +kernel⟩
abbrev s_BitReader_skip_padding : Stmt := inClass (topS 8) 6
theorem sc_BitReader_skip_padding : FnScope ["self", "place"] ["self"] (defScope s_BitReader_skip_padding) := ⟨rfl, rfl, rfl, by decide +kernel, rfl, by decide +kernel, by decide +kernel⟩
abbrev s_BitReader_rest_of_byte : Stmt := inClass (topS 8) 7
theorem sc_BitReader_rest_of_byte : FnScope ["self", "place"] ["self"] (defScope s_BitReader_rest_of_byte) := ⟨rfl, rfl, rfl, by decide +kernel, rfl, by decide +kernel, by decide +kernel⟩
abbrev s_BitReader_byte_place : Stmt := inClass (topS 8) 9
theorem sc_BitReader_byte_place : FnScope ["self"] ["self"] (defScope s_BitReader_byte_place) := ⟨rfl, rfl, rfl, by decide +kernel, rfl, by decide +kernel, by decide +kernel⟩
abbrev s_BitReader_bit_place : Stmt := inClass (topS 8) 10
theorem sc_BitReader_bit_place : FnScope ["self"] ["self"] (defScope s_BitReader_bit_place) := ⟨rfl, rfl, rfl, by decide +kernel, rfl, by decide +kernel, by decide +kernel⟩
abbrev s_BitReader_aligned : Stmt := inClass (topS 8) 11
theorem sc_BitReader_aligned : FnScope ["self"] ["self"] (defScope s_BitReader_aligned) := ⟨rfl, rfl, rfl, by decide +kernel, rfl, by decide +kernel, by decide +kernel⟩
abbrev s_law_draw : Stmt := topS 10
theorem sc_law_draw : FnScope ["cell", "many", "bound", "numbers", "k", "seed", "mixed"] ["cell", "many", "bound"] (defScope s_law_draw) := ⟨rfl, rfl, rfl, by decide +kernel, rfl, by decide +kernel, by decide +kernel⟩
abbrev s_law_cell : Stmt := topS 11
theorem sc_law_cell : FnScope ["script", "k"] ["script", "k"] (defScope s_law_cell) := ⟨rfl, rfl, rfl, by decide +kernel, rfl, by decide +kernel, by decide +kernel⟩
abbrev s_law_field : Stmt := topS 12
theorem sc_law_field : FnScope ["cell", "numbers", "kind", "width", "value", "k"] ["cell"] (defScope s_law_field) := ⟨rfl, rfl, rfl, by decide +kernel, rfl, by decide +kernel, by decide +kernel⟩
abbrev s_law_write : Stmt := topS 13
theorem sc_law_write : FnScope ["writer", "field", "kind", "width", "value"] ["writer", "field"] (defScope s_law_write) := ⟨rfl, rfl, rfl, by decide +kernel, rfl, by decide +kernel, by decide +kernel⟩
abbrev s_law_read : Stmt := topS 14
theorem sc_law_read : FnScope ["reader", "field", "kind", "width", "value"] ["reader", "field"] (defScope s_law_read) := ⟨rfl, rfl, rfl, by decide +kernel, rfl, by decide +kernel, by decide +kernel⟩
abbrev s_law_ends : Stmt := topS 15
theorem sc_law_ends : FnScope ["reader", "size", "place", "k", "error"] ["reader", "size"] (defScope s_law_ends) := ⟨rfl, rfl, rfl, by decide +kernel, rfl, by decide +kernel, by decide +kernel⟩
abbrev s_law : Stmt := topS 16
theorem sc_law : FnScope ["script", "writer", "front", "fields", "field", "data", "reader", "k", "cell"] ["script"] (defScope s_law) := ⟨rfl, rfl, rfl, by decide +kernel, rfl, by decide +kernel, by decide +kernel⟩
theorem hu64 {A : Around} {k : Nat} (hr : Room k A) : A.units + 64 < cLine := hr.units
/-! ### short words for readings -/
theorem ret_eq {v w : V} {H H' : Hp} {Q : VK} (k : RetV v H Q) (ex : Ex H H') (e : w = v) : Q w H' := e ▸ k H' ex
/-- isinstance(x, T), T a built-in class -/
theorem ev_isi {K : PySem.W.Frag} {σ : L2.St} {H : Hp} {ta : TE} {x : V} {t : String} {T : String} {b : Bool} (ha : Ev ta σ H x) (ht : ∀ H1, Ex H H1 → TyX K H1 x (.type t)) (hk : kitB t T = some b) :
    Ev (tCB (rIsi K) (tCons ta (tCons (tC (.ty T)) tNil))) σ H (.bl b) :=
  ev_cb (ea_cons ha (ea_cons ev_c ea_nil)) fun H1 e Q q => ⟨x, .ty T, _, _, b, rfl, .ty T, ht H1 e, kit_ty hk, q H1 (Ex.refl H1)⟩
theorem isi_int {K : PySem.W.Frag} {H : Hp} {i : Int} : ∀ H1, Ex H H1 → TyX K H1 (V.int i) (.type "int") := fun _ _ => .base (.int _)
theorem isi_bl {K : PySem.W.Frag} {H : Hp} {b : Bool} : ∀ H1, Ex H H1 → TyX K H1 (V.bl b) (.type "bool") := fun _ _ => .base (.bl _)
theorem isi_non {K : PySem.W.Frag} {H : Hp} : ∀ H1, Ex H H1 → TyX K H1 V.non (.type "NoneType") := fun _ _ => .base .non
theorem isi_lst {K : PySem.W.Frag} {H : Hp} {a : Addr} {xs : List V} (h : H a = some (.lst xs)) : ∀ H1, Ex H H1 → TyX K H1 (V.ref a) (.type "list") := fun _ e => .base (.lst (e _ _ h))
theorem isi_tup {K : PySem.W.Frag} {H : Hp} {a : Addr} {xs : List V} (h : H a = some (.tup xs)) : ∀ H1, Ex H H1 → TyX K H1 (V.ref a) (.type "tuple") := fun _ e => .base (.tup (e _ _ h))
theorem kit_ii : kitB "int" "int" = some true := by decide +kernel
theorem kit_ib : kitB "int" "bool" = some false := by decide +kernel
theorem kit_bb : kitB "bool" "bool" = some true := by decide +kernel
theorem kit_bi : kitB "bool" "int" = some true := by decide +kernel
theorem kit_ll : kitB "list" "list" = some true := by decide +kernel
theorem kit_tt : kitB "tuple" "tuple" = some true := by decide +kernel
theorem ev_isiI {K : PySem.W.Frag} {σ : L2.St} {H : Hp} {ta : TE} {i : Int} (ha : Ev ta σ H (.int i)) : Ev (tCB (rIsi K) (tCons ta (tCons (tC (.ty "int")) tNil))) σ H (.bl true) := ev_isi ha isi_int kit_ii
theorem ev_isiB {K : PySem.W.Frag} {σ : L2.St} {H : Hp} {ta : TE} {i : Int} (ha : Ev ta σ H (.int i)) : Ev (tCB (rIsi K) (tCons ta (tCons (tC (.ty "bool")) tNil))) σ H (.bl false) := ev_isi ha isi_int kit_ib
theorem ev_isiL {K : PySem.W.Frag} {σ : L2.St} {H : Hp} {ta : TE} {a : Addr} {xs : List V} (ha : Ev ta σ H (.ref a)) (h : H a = some (.lst xs)) : Ev (tCB (rIsi K) (tCons ta (tCons (tC (.ty "list")) tNil))) σ H (.bl true) := ev_isi ha (isi_lst h) kit_ll
theorem ev_isiBB {K : PySem.W.Frag} {σ : L2.St} {H : Hp} {ta : TE} {b : Bool} (ha : Ev ta σ H (.bl b)) : Ev (tCB (rIsi K) (tCons ta (tCons (tC (.ty "bool")) tNil))) σ H (.bl true) := ev_isi ha isi_bl kit_bb
theorem ev_chain {σ : L2.St} {H : Hp} {ta tb tc : TE} {g g' : Int → Int → Bool} {a b c : Int} (ha : Ev ta σ H (.int a)) (hb : Ev tb σ H (.int b)) (hc : Ev tc σ H (.int c)) :
    Ev (tChain (rI0 fun i j => .bl (g i j)) (rI0 fun i j => .bl (g' i j)) ta tb tc) σ H (.bl (g a b && g' b c)) := fun H1 e Q q =>
  ha H1 e _ fun H2 e2 => hb H2 (e.trans e2) _ fun H3 e3 => ⟨a, b, rfl, rfl, g a b, rfl, by
    cases hg : g a b with
    | true =>
      rw [if_pos rfl]
      rw [hg, Bool.true_and] at q
      exact hc H3 ((e.trans e2).trans e3) _ fun H4 e4 => ⟨b, c, rfl, rfl, q H4 ((e2.trans e3).trans e4)⟩
    | false =>
      rw [if_neg (by decide)]
      rw [hg, Bool.false_and] at q
      exact q H3 (e2.trans e3)⟩
theorem ev_isN {σ : L2.St} {H : Hp} {ta : TE} {x : V} (ha : Ev ta σ H x) : Ev (tOp rIsN ta (tC .non)) σ H (.bl (decide (x = .non))) := fun H1 e Q q => ha H1 e _ fun H2 e2 => ⟨rfl, q H2 e2⟩
theorem ev_notN {σ : L2.St} {H : Hp} {ta : TE} {x : V} (ha : Ev ta σ H x) : Ev (tOp rNotN ta (tC .non)) σ H (.bl (!decide (x = .non))) := fun H1 e Q q => ha H1 e _ fun H2 e2 => ⟨rfl, q H2 e2⟩
theorem ev_min2 {σ : L2.St} {H : Hp} {ta tb : TE} {i j : Int} (ha : Ev ta σ H (.int i)) (hb : Ev tb σ H (.int j)) :
    Ev (tCB (fun xs H Q => ∃ i j, xs = [.int i, .int j] ∧ Q (.int (if j < i then j else i)) H) (tCons ta (tCons tb tNil))) σ H (.int (if j < i then j else i)) :=
  ev_cb (ea_cons ha (ea_cons hb ea_nil)) fun H1 _ _ q => ⟨i, j, rfl, q H1 (Ex.refl H1)⟩
theorem ev_negI {σ : L2.St} {H : Hp} {ta : TE} {i : Int} (ha : Ev ta σ H (.int i)) : Ev (tUn (rU fun i => .int (-i)) ta) σ H (.int (-i)) := ev_un ha ru_neg
theorem ev_I0 {σ : L2.St} {H : Hp} {ta tb : TE} {g : Int → Int → V} {i j : Int} (ha : Ev ta σ H (.int i)) (hb : Ev tb σ H (.int j)) : Ev (tOp (rI0 g) ta tb) σ H (g i j) := ev_op ha hb rv_I0
theorem ev_I {σ : L2.St} {H : Hp} {ta tb : TE} {C : Int → Int → Prop} {g : Int → Int → V} {i j : Int} (ha : Ev ta σ H (.int i)) (hb : Ev tb σ H (.int j)) (hc : C i j) : Ev (tOp (rI C g) ta tb) σ H (g i j) := ev_op ha hb (rv_I hc)
theorem ev_eq {σ : L2.St} {H : Hp} {ta tb : TE} {x y : V} (ha : Ev ta σ H x) (hb : Ev tb σ H y) (hs : scal x y = true) : Ev (tOp rEq ta tb) σ H (.bl (decide (x = y))) := ev_op ha hb (rv_eq hs)
theorem ev_ne {σ : L2.St} {H : Hp} {ta tb : TE} {x y : V} (ha : Ev ta σ H x) (hb : Ev tb σ H y) (hs : scal x y = true) : Ev (tOp rNe ta tb) σ H (.bl (!decide (x = y))) := ev_op ha hb (rv_ne hs)
theorem et_B' {σ : L2.St} {H : Hp} {te : TE} {x : V} {b : Bool} (h : Ev te σ H x) (e : x = .bl b) : EvT (tB te) σ H b := et_B (e ▸ h)
theorem dec_lt {a b : Nat} : decide ((a : Int) < (b : Int)) = decide (a < b) := by
  by_cases h : a < b
  · rw [decide_eq_true h, decide_eq_true (by omega)]
  · rw [decide_eq_false h, decide_eq_false (by omega)]
theorem int_at {ns : List Int} {i : Nat} {x : V} (hx : (ns.map V.int)[i]? = some x) : ∃ n, ns[i]? = some n ∧ i < ns.length ∧ x = V.int n := by
  rw [List.getElem?_map] at hx
  cases en : ns[i]? with
  | none => rw [en] at hx; cases hx
  | some n => rw [en] at hx; exact ⟨n, rfl, (List.getElem?_eq_some_iff.mp en).1, (Option.some.inj hx).symm⟩
theorem at_int {ns : List Int} {i : Nat} {n : Int} (h : ns[i]? = some n) : (ns.map V.int)[i]? = some (V.int n) := by rw [List.getElem?_map, h]; rfl
local macro_rules | `(tactic| walk_at "side") => `(tactic| first
  | omega | (show CMul _ _; unfold CMul; omega) | (show CDiv _ _; unfold CDiv; omega) | (show CPow _ _; unfold CPow; omega) | (show (_ : Int) < _; omega) | (show (_ : Int) ≤ _; omega) | decide)
local macro_rules | `(tactic| walk_at "ev") => `(tactic| first
  | exact ev_var rfl
  | exact ev_c
  | (refine' ev_I0 ?h1 ?h2; (case h1 => walk_at "ev"); (case h2 => walk_at "ev"))
  | (refine' ev_negI ?h1; (case h1 => walk_at "ev"))
  | (refine' ev_I ?h1 ?h2 ?hc; (case h1 => walk_at "ev"); (case h2 => walk_at "ev"); (case hc => walk_at "side"))
  | (refine' ev_eq ?h1 ?h2 ?hc; (case h1 => walk_at "ev"); (case h2 => walk_at "ev"); (case hc => rfl))
  | (refine' ev_ne ?h1 ?h2 ?hc; (case h1 => walk_at "ev"); (case h2 => walk_at "ev"); (case hc => rfl))
  | (refine' ev_max2 ?h1 ?h2; (case h1 => walk_at "ev"); (case h2 => walk_at "ev"))
  | (refine' ev_min2 ?h1 ?h2; (case h1 => walk_at "ev"); (case h2 => walk_at "ev"))
  | (refine' ev_chain ?h1 ?h2 ?h3; (case h1 => walk_at "ev"); (case h2 => walk_at "ev"); (case h3 => walk_at "ev"))
  | (refine' ev_isN ?h1; (case h1 => walk_at "ev"))
  | (refine' ev_notN ?h1; (case h1 => walk_at "ev"))
  | (refine' ev_isiI ?h1; (case h1 => walk_at "ev"))
  | (refine' ev_isiB ?h1; (case h1 => walk_at "ev"))
  | (refine' ev_isiBB ?h1; (case h1 => walk_at "ev"))
  | (refine' ev_andV ?h1 (fun _ => ?h2); (case h1 => walk_at "ev"); (case h2 => walk_at "ev"))
  | (refine' ev_orV ?h1 (fun _ => ?h2); (case h1 => walk_at "ev"); (case h2 => walk_at "ev"))
  | (refine' ev_notV ?h1; (case h1 => walk_at "ev"))
  | walk_at "evmore")
local macro_rules | `(tactic| walk_at "et") => `(tactic| first
  | (refine' et_test ?h1; (case h1 => walk_at "ev"))
  | (refine' et_B ?h1; (case h1 => walk_at "ev"))
  | (refine' et_not ?h1; (case h1 => walk_at "et"))
  | (refine' et_and ?h1 (fun _ => ?h2); (case h1 => walk_at "et"); (case h2 => walk_at "et"))
  | (refine' et_or ?h1 (fun _ => ?h2); (case h1 => walk_at "et"); (case h2 => walk_at "et")))
local macro_rules | `(tactic| walk_at "ea") => `(tactic| first
  | exact ea_nil
  | (refine' ea_cons ?h1 ?h2; (case h1 => walk_at "ev"); (case h2 => walk_at "ea")))
local macro_rules | `(tactic| walk_at "when") => `(tactic| (refine' q_when ?h ?h1 ?h2; (case h => walk_at "et")))
local macro_rules | `(tactic| walk_at "whenS") => `(tactic| (refine' s_when ?h ?h1 ?h2; (case h => walk_at "et")))
local macro_rules | `(tactic| walk_at "if") => `(tactic| (refine' q_if ?h ?h1 ?h2; (case h => walk_at "et")))
local macro_rules | `(tactic| walk_at "ifS") => `(tactic| (refine' s_if ?h ?h1 ?h2; (case h => walk_at "et")))
local macro_rules | `(tactic| walk_at "ret") => `(tactic| (refine' s_ret ?h ?h1; (case h => walk_at "ev")))
local macro_rules | `(tactic| walk_at "asg") => `(tactic| (refine' q_asg ?h ?h1; (case h => walk_at "ev")))
local macro_rules | `(tactic| walk_at "asgS") => `(tactic| (refine' s_asg ?h ?h1; (case h => walk_at "ev")))

/-! ### lists, existing or new -/
def EvR (te : TE) (σ : L2.St) (H : Hp) (xs : List V) : Prop := ∀ H1, Ex H H1 → ∀ Q : VK, (∀ p H2, Ex H1 H2 → H2 p = some (.lst xs) → Q (.ref p) H2) → te σ H1 Q
def EvS (K : PySem.W.Frag) (te : TE) (σ : L2.St) (H : Hp) (xs : List V) : Prop := ∀ H1, Ex H H1 → ∀ Q : VK, (∀ p H2, Ex H1 H2 → SqL K H2 p xs → Q (.ref p) H2) → te σ H1 Q
section
variable {K : PySem.W.Frag} {σ : L2.St} {H H' : Hp} {ta tb te : TE} {xs ys : List V} {a : Addr}
theorem EvL.r (h : EvL te σ H xs) : EvR te σ H xs := fun H1 e Q q => h H1 e Q fun p H2 _ e2 h2 => q p H2 e2 h2
theorem Ev.r (h : Ev te σ H (.ref a)) (hx : H a = some (.lst xs)) : EvR te σ H xs := fun H1 e Q q => h H1 e Q fun H2 e2 => q a H2 e2 (e2 _ _ (e _ _ hx))
theorem EvR.s (h : EvR te σ H xs) : EvS K te σ H xs := fun H1 e Q q => h H1 e Q fun p H2 e2 h2 => q p H2 e2 (sq_of h2)
theorem Ev.s (h : Ev te σ H (.ref a)) (hx : SqL K H a xs) : EvS K te σ H xs := fun H1 e Q q => h H1 e Q fun H2 e2 => q a H2 e2 (ex_l e2 (ex_l e hx))
theorem EvR.mono (e : Ex H H') (h : EvR te σ H xs) : EvR te σ H' xs := fun H1 a Q q => h H1 (e.trans a) Q q
theorem EvS.mono (e : Ex H H') (h : EvS K te σ H xs) : EvS K te σ H' xs := fun H1 a Q q => h H1 (e.trans a) Q q
theorem EvL.is (h : EvL te σ H xs) (e : xs = ys) : EvL te σ H ys := e ▸ h
theorem EvR.is (h : EvR te σ H xs) (e : xs = ys) : EvR te σ H ys := e ▸ h
theorem el_cat (ha : EvR ta σ H xs) (hb : EvR tb σ H ys) (hl : xs.length + ys.length ≤ 100000) : EvL (tOp rCat ta tb) σ H (xs ++ ys) := fun H1 e Q q =>
  ha H1 e _ fun p H2 e2 h2 => hb H2 (e.trans e2) _ fun r H3 e3 h3 => ⟨p, r, xs, ys, rfl, rfl, e3 _ _ h2, h3, sz_of hl, fun l hl => q l _ (fresh_back (e2.trans e3) hl) ((e2.trans e3).trans (Ex.new hl)) upd_same⟩
theorem el_rep {k : Int} (ha : EvR ta σ H xs) (hb : Ev tb σ H (.int k)) (hk : -(2 ^ 63) ≤ k ∧ k < 2 ^ 63) (hl : xs.length * k.toNat ≤ 100000) : EvL (tOp rRep ta tb) σ H (List.replicate k.toNat xs).flatten := fun H1 e Q q =>
  ha H1 e _ fun p H2 e2 h2 => hb H2 (e.trans e2) _ fun H3 e3 => ⟨p, k, xs, rfl, rfl, e3 _ _ h2, hk.1, hk.2, sz_of hl, fun l hl => q l _ (fresh_back (e2.trans e3) hl) ((e2.trans e3).trans (Ex.new hl)) upd_same⟩
theorem rep_one {x : V} (n : Nat) : (List.replicate n [x]).flatten = List.replicate n x := by
  induction n with
  | zero => rfl
  | succ n ih => rw [List.replicate_succ, List.replicate_succ, List.flatten_cons, ih]; rfl
theorem el_of {te : TE} (h : EvS K te σ H xs) : EvL (tCB (rListS K) (tCons te tNil)) σ H xs := fun H1 e Q q =>
  h H1 e _ fun p H2 e2 h2 => ⟨p, xs, rfl, .inl h2, fun l hl => q l _ (fresh_back e2 hl) (e2.trans (Ex.new hl)) upd_same⟩
theorem ev_lenS (h : EvS K te σ H xs) : Ev (tCB (rLenS K) (tCons te tNil)) σ H (.int (xs.length : Int)) := fun H1 e Q q =>
  h H1 e _ fun p H2 e2 h2 => ⟨p, xs, rfl, .inl h2, q H2 e2⟩
theorem ev_sum {ns : List Int} (h : EvS K te σ H (ns.map V.int)) : Ev (tCB (rSum K) (tCons te tNil)) σ H (.int ns.sum) := fun H1 e Q q =>
  h H1 e _ fun p H2 e2 h2 => ⟨p, ns, rfl, h2, q H2 e2⟩
theorem dp_ints {K : PySem.W.Frag} {H : Hp} : ∀ ns : List Int, DpAll K H (ns.map V.int) (ns.map PyData.int)
  | [] => .nil
  | n :: r => .cons (.int n) (dp_ints r)
theorem eqv_ints : ∀ ns ms : List Int, PyData.eqvAll (ns.map PyData.int) (ms.map PyData.int) = decide (ns = ms)
  | [], [] => by simp [PyData.eqvAll]
  | [], _ :: _ => by simp [PyData.eqvAll]
  | _ :: _, [] => by simp [PyData.eqvAll]
  | n :: r, m :: t => by
    show (PyData.eqv (.int n) (.int m) && PyData.eqvAll (r.map PyData.int) (t.map PyData.int)) = _
    rw [eqv_ints r t]
    show ((n == m) && decide (r = t)) = _
    by_cases h1 : n = m <;> by_cases h2 : r = t <;> simp [h1, h2]
theorem canLay_ints : ∀ ns : List Int, PyData.canLayAll0 (ns.map PyData.int) = true
  | [] => by simp [PyData.canLayAll0]
  | n :: r => by
    show PyData.canLayAll0 (PyData.int n :: r.map PyData.int) = true
    rw [PyData.canLayAll0, canLay_ints r]
    simp [PyData.canLay0]
theorem depth_ints : ∀ ns : List Int, PyData.depthAll (ns.map PyData.int) ≤ 1
  | [] => by simp [PyData.depthAll]
  | n :: r => by
    show PyData.depthAll (PyData.int n :: r.map PyData.int) ≤ 1
    have := depth_ints r
    simp only [PyData.depthAll, PyData.depth]
    omega
theorem shaped_ints (ns : List Int) : SeqAt.shaped (.list (ns.map PyData.int)) = true := by
  unfold SeqAt.shaped
  have h1 := canLay_ints ns
  have h2 := depth_ints ns
  have h3 : PyData.depth (.list (ns.map PyData.int)) ≤ 64 := by
    rw [PyData.depth]
    omega
  rw [decide_eq_true h3, Bool.and_true]
  simpa only [PyData.canLay0] using h1
theorem ev_eqI {ns ms : List Int} (ha : EvS K ta σ H (ns.map V.int)) (hb : EvS K tb σ H (ms.map V.int)) : Ev (tOp (rEqD K) ta tb) σ H (.bl (decide (ns = ms))) := fun H1 e Q q =>
  ha H1 e _ fun p H2 e2 h2 => hb H2 (e.trans e2) _ fun r H3 e3 h3 => ⟨.list (ns.map PyData.int), .list (ms.map PyData.int), .lst (ex_l e3 h2) (dp_ints ns), .lst h3 (dp_ints ms), shaped_ints ns, shaped_ints ms, by
    show Q (.bl (PyData.eqvAll (ns.map PyData.int) (ms.map PyData.int))) H3
    rw [eqv_ints]
    exact q H3 (e2.trans e3)⟩
theorem ev_neI {ns ms : List Int} (ha : EvS K ta σ H (ns.map V.int)) (hb : EvS K tb σ H (ms.map V.int)) : Ev (tOp (rNeD K) ta tb) σ H (.bl (!decide (ns = ms))) := fun H1 e Q q =>
  ha H1 e _ fun p H2 e2 h2 => hb H2 (e.trans e2) _ fun r H3 e3 h3 => ⟨.list (ns.map PyData.int), .list (ms.map PyData.int), .lst (ex_l e3 h2) (dp_ints ns), .lst h3 (dp_ints ms), shaped_ints ns, shaped_ints ms, by
    show Q (.bl (!PyData.eqvAll (ns.map PyData.int) (ms.map PyData.int))) H3
    rw [eqv_ints]
    exact q H3 (e2.trans e3)⟩
theorem ev_ixS {i : Nat} {n : Int} {tl ti : TE} {v : V} (h : EvS K tl σ H xs) (hi : Ev ti σ H (.int n)) (ha : atI xs n = some v) : Ev (tOp (rIxL K) tl ti) σ H v := fun H1 e Q q =>
  h H1 e _ fun p H2 e2 h2 => hi H2 (e.trans e2) _ fun H3 e3 => ⟨p, xs, n, v, rfl, rfl, ex_l e3 h2, ha, q H3 (e2.trans e3)⟩
theorem el_slS {tl th : TO} {lo hi : Option Int} (h : EvS K te σ H xs) (h1 : EvO tl σ H lo) (h2 : EvO th σ H hi) : EvL (tSl (rSlL K) te tl th) σ H (cutV xs lo hi) := fun H1 e _ q =>
  h H1 e _ fun a H2 e2 hs => h1 H2 (e.trans e2) _ fun H3 e3 => h2 H3 ((e.trans e2).trans e3) _ fun H4 e4 =>
    ⟨a, xs, rfl, ex_l (e3.trans e4) hs, fun p hp => q p _ (fresh_back ((e2.trans e3).trans e4) hp) (((e2.trans e3).trans e4).trans (Ex.new hp)) upd_same⟩
theorem ev_at {n : Int} {tl ti : TE} {v : V} (h : EvS K tl σ H xs) (hi : Ev ti σ H (.int n)) (ha : atI xs n = some v) : Ev (tOp (rIxL K) tl ti) σ H v := ev_ixS (i := 0) h hi ha
theorem cut_to (xs : List V) (i : Nat) : cutV xs none (some (i : Int)) = xs.take i := by
  unfold cutV
  rw [HT.sIx_none, HT.sIx_nat, List.drop_zero, Nat.sub_zero]
  by_cases h : i ≤ xs.length
  · rw [Nat.min_eq_left h]
  · rw [Nat.min_eq_right (by omega), List.take_of_length_le (Nat.le_refl _), List.take_of_length_le (by omega)]
theorem cut_from (xs : List V) (i : Nat) : cutV xs (some (i : Int)) none = xs.drop i := by
  unfold cutV
  rw [HT.sIx_none, HT.sIx_nat]
  by_cases h : i ≤ xs.length
  · rw [Nat.min_eq_left h, List.take_of_length_le (by rw [List.length_drop]; omega)]
  · rw [Nat.min_eq_right (by omega), List.drop_of_length_le (Nat.le_refl _), List.drop_of_length_le (show xs.length ≤ i by omega), List.take_nil]
theorem cut_mid (xs : List V) (i j : Nat) : cutV xs (some (i : Int)) (some (j : Int)) = (xs.drop i).take (j - i) := by
  unfold cutV
  rw [HT.sIx_nat, HT.sIx_nat]
  by_cases h : i ≤ xs.length
  · rw [Nat.min_eq_left h]
    by_cases h2 : j ≤ xs.length
    · rw [Nat.min_eq_left h2]
    · rw [Nat.min_eq_right (by omega), List.take_of_length_le (by rw [List.length_drop]; omega), List.take_of_length_le (by rw [List.length_drop]; omega)]
  · rw [Nat.min_eq_right (by omega : xs.length ≤ i), List.drop_of_length_le (Nat.le_refl _), List.drop_of_length_le (show xs.length ≤ i by omega)]
    simp
theorem el_to {th : TE} {ns : List Int} {i : Nat} (h : EvS K te σ H (ns.map V.int)) (h2 : Ev th σ H (.int i)) : EvL (tSl (rSlL K) te tNoPart (tPart th)) σ H ((ns.take i).map V.int) :=
  EvL.is (el_slS h eo_none (eo_some h2)) (by rw [List.map_take]; exact cut_to _ i)
theorem el_from {th : TE} {ns : List Int} {i : Nat} (h : EvS K te σ H (ns.map V.int)) (h2 : Ev th σ H (.int i)) : EvL (tSl (rSlL K) te (tPart th) tNoPart) σ H ((ns.drop i).map V.int) :=
  EvL.is (el_slS h (eo_some h2) eo_none) (by rw [List.map_drop]; exact cut_from _ i)
theorem el_mid {t1 t2 : TE} {ns : List Int} {i j : Nat} (h : EvS K te σ H (ns.map V.int)) (h1 : Ev t1 σ H (.int i)) (h2 : Ev t2 σ H (.int j)) : EvL (tSl (rSlL K) te (tPart t1) (tPart t2)) σ H (((ns.drop i).take (j - i)).map V.int) :=
  EvL.is (el_slS h (eo_some h1) (eo_some h2)) (by rw [List.map_take, List.map_drop]; exact cut_mid _ i j)
section
variable {D : Ends} {tz : TS} {sp : Sp} {dvs vs : List V} {E : XK} {tA : TA}
/-- x = f(..), whatever f promises -/
theorem q_asgC {i : Nat} (h : EvA tA σ H vs) (k : ∀ H1, Ex H H1 → sp (vs ++ dvs) H1 (fun x H2 => tz D (σ.set i (some x)) H2) E) : tSeq (tAsg (tCall sp dvs E tA) (gName i)) tz D σ H := h H (Ex.refl H) _ fun H1 e => k H1 e
theorem s_asgC {i : Nat} (h : EvA tA σ H vs) (k : ∀ H1, Ex H H1 → sp (vs ++ dvs) H1 (fun x H2 => D.nx (σ.set i (some x)) H2) E) : tAsg (tCall sp dvs E tA) (gName i) D σ H := h H (Ex.refl H) _ fun H1 e => k H1 e
theorem q_dropC (h : EvA tA σ H vs) (k : ∀ H1, Ex H H1 → sp (vs ++ dvs) H1 (fun _ H2 => tz D σ H2) E) : tSeq (tDrop (tCall sp dvs E tA)) tz D σ H := h H (Ex.refl H) _ fun H1 e => k H1 e
theorem s_retC (h : EvA tA σ H vs) (k : ∀ H1, Ex H H1 → sp (vs ++ dvs) H1 D.rt E) : tRet (tCall sp dvs E tA) D σ H := h H (Ex.refl H) _ fun H1 e => k H1 e
end
theorem gl_get {ns : List Int} {i : Nat} (h : i < ns.length) : ns[i]? = some (ns.getD i 0) := by
  rw [List.getD_eq_getElem?_getD, List.getElem?_eq_getElem h]
  rfl
theorem q_asgRaw {te : TE} {i : Nat} {D : Ends} {tz : TS} (P : V → Hp → Prop) (h : ∀ Q : VK, (∀ x H2, P x H2 → Q x H2) → te σ H Q) (k : ∀ x H2, P x H2 → tz D (σ.set i (some x)) H2) : tSeq (tAsg te (gName i)) tz D σ H := h _ k
/-- a, b = a pair -/
theorem q_asgT {te : TE} {i j : Nat} {D : Ends} {tz : TS} (P : V → V → Hp → Prop) (h : ∀ Q : VK, (∀ t x y H2, P x y H2 → SqT K H2 t [x, y] → Q (.ref t) H2) → te σ H Q) (k : ∀ x y H2, P x y H2 → tz D ((σ.set i (some x)).set j (some y)) H2) :
    tSeq (tAsg te (gTup K 2 (gCons (gName i) (gCons (gName j) gNil)))) tz D σ H := h _ fun t x y H2 hP hT => ⟨t, [x, y], rfl, hT, rfl, x, [y], rfl, y, [], rfl, rfl, k x y H2 hP⟩
/-- the law's cell -/
def cellI (ns : List Int) (k : Int) : Int := ns.getD k.toNat 0
theorem cellI_in {ns : List Int} {k : Int} (h0 : 0 ≤ k) (h : k < ns.length) : ns[k.toNat]? = some (cellI ns k) := by
  unfold cellI
  rw [List.getD_eq_getElem?_getD, List.getElem?_eq_getElem (by omega)]
  rfl
theorem cellI_out {ns : List Int} {k : Int} (h : ¬ k < ns.length) : cellI ns k = 0 := by
  unfold cellI
  rw [List.getD_eq_getElem?_getD, List.getElem?_eq_none (by omega)]
  rfl
end
theorem Ex.get {H H' : Hp} {a : Addr} {o : HO} (e : Ex H H') (h : H a = some o) : H' a = some o := e a o h
local macro_rules | `(tactic| walk_at "hp") => `(tactic| first
  | assumption
  | exact upd_same
  | (refine' Ex.get (by assumption) ?h1; (case h1 => walk_at "hp")))
local macro_rules | `(tactic| walk_at "ex") => `(tactic| first
  | assumption
  | exact Ex.refl _
  | (refine' Ex.trans ?h1 (by assumption); (case h1 => walk_at "ex")))
local macro_rules | `(tactic| walk_at "sq") => `(tactic| first
  | assumption
  | (refine' sq_of ?h1; (case h1 => walk_at "hp"))
  | (refine' ex_l (by assumption) ?h1; (case h1 => walk_at "sq")))
local macro_rules | `(tactic| walk_at "evs") => `(tactic| first
  | (refine' Ev.s ?h1 ?h2; (case h1 => exact ev_var rfl); (case h2 => walk_at "sq"))
  | (refine' EvR.s ?h1; (case h1 => walk_at "evr")))
local macro_rules | `(tactic| walk_at "evr") => `(tactic| first
  | (refine' Ev.r ?h1 ?h2; (case h1 => exact ev_var rfl); (case h2 => walk_at "hp"))
  | (refine' EvL.r ?h1; (case h1 => walk_at "el")))
local macro_rules | `(tactic| walk_at "eo") => `(tactic| first
  | exact eo_none
  | (refine' eo_some ?h1; (case h1 => walk_at "ev")))
local macro_rules | `(tactic| walk_at "el") => `(tactic| first
  | (refine' el_lst ?h1 ?h2; (case h1 => walk_at "ea"); (case h2 => exact Nat.le_of_ble_eq_true rfl))
  | (refine' el_cat ?h1 ?h2 ?h3; (case h1 => walk_at "evr"); (case h2 => walk_at "evr"); (case h3 => walk_at "len"))
  | (refine' el_rep ?h1 ?h2 ?h3 ?h4; (case h1 => walk_at "evr"); (case h2 => walk_at "ev"); (case h3 => walk_at "side2"); (case h4 => walk_at "len"))
  | (refine' el_of ?h1; (case h1 => walk_at "evs"))
  | (refine' el_to ?h1 ?h2; (case h1 => walk_at "evs"); (case h2 => walk_at "ev"))
  | (refine' el_from ?h1 ?h2; (case h1 => walk_at "evs"); (case h2 => walk_at "ev"))
  | (refine' el_mid ?h1 ?h2 ?h3; (case h1 => walk_at "evs"); (case h2 => walk_at "ev"); (case h3 => walk_at "ev"))
  | (refine' el_slS ?h1 ?h2 ?h3; (case h1 => walk_at "evs"); (case h2 => walk_at "eo"); (case h3 => walk_at "eo"))
  | walk_at "elmore")
local macro_rules | `(tactic| walk_at "evmore") => `(tactic| first
  | (refine' ev_lenS ?h1; (case h1 => walk_at "evs"))
  | (refine' ev_sum ?h1; (case h1 => walk_at "evs"))
  | (refine' ev_eqI ?h1 ?h2; (case h1 => walk_at "evs"); (case h2 => walk_at "evs"))
  | (refine' ev_neI ?h1 ?h2; (case h1 => walk_at "evs"); (case h2 => walk_at "evs"))
  | (refine' ev_at ?h1 ?h2 ?h3; (case h1 => walk_at "evs"); (case h2 => walk_at "ev"); (case h3 => walk_at "at"))
  | (refine' ev_isiL ?h1 ?h2; (case h1 => walk_at "ev"); (case h2 => walk_at "hp"))
  | walk_at "evown")
local macro_rules | `(tactic| walk_at "at") => `(tactic| first
  | exact at_of rfl (at_int (by assumption))
  | exact at_of rfl (by assumption))
local macro_rules | `(tactic| walk_at "asgL") => `(tactic| (refine' q_asgL ?h ?h1; (case h => walk_at "el")))
local macro_rules | `(tactic| walk_at "retL") => `(tactic| (refine' s_retL ?h ?h1; (case h => walk_at "el")))

/-! ### comprehensions whose items are said in a list -/
theorem et_yes {σ : L2.St} {H : Hp} : EvT tYes σ H true := fun H1 _ _ q => q H1 (Ex.refl H1)
section
variable {K : PySem.W.Frag} {σ : L2.St} {H : Hp} {t1 t2 te : TE} {xs ys zs : List V} {vs : List Nat}
theorem take_snoc {zs : List V} {i : Nat} {z : V} (h : zs[i]? = some z) : zs.take (i + 1) = zs.take i ++ [z] := by
  rw [List.take_add_one, h]
  rfl
theorem el_lcZ {j1 j2 : Nat} (zs : List V) (h1 : EvS K t1 σ H xs) (h2 : EvS K t2 σ H ys) (hz : zs.length = min xs.length ys.length) (hb : zs.length ≤ 50000)
    (hw : ∀ x y, wipe (((wipe σ vs).set j1 (some x)).set j2 (some y)) vs = wipe σ vs)
    (he : ∀ (i : Nat) (x y : V) H1, Ex H H1 → xs[i]? = some x → ys[i]? = some y → ∃ z, zs[i]? = some z ∧ Ev te (((wipe σ vs).set j1 (some x)).set j2 (some y)) H1 z) :
    EvL (tLc (iZip K (tCons t1 (tCons t2 tNil))) (gTup K 2 (gCons (gName j1) (gCons (gName j2) gNil))) tYes te vs) σ H zs := fun H0 e Q q =>
  h1 H0 e _ fun p H1 e1 hp => h2 H1 (e.trans e1) _ fun r H2 e2 hr => ⟨p, r, xs, ys, rfl, ex_l e2 hp, hr, fun D hD =>
    ⟨fun i m H' => m = zs.length - i ∧ i ≤ zs.length ∧ Ex H2 H' ∧ H' D = some (.lst (zs.take i)), ⟨zs.length, rfl, Nat.zero_le _, Ex.new hD, upd_same⟩, by
      rintro i m H' ⟨rfl, hi, ex, hd⟩
      have qx : SqL K H' p xs := ex_l (e2.trans ex) hp
      have qy : SqL K H' r ys := ex_l ex hr
      by_cases hlt : i < zs.length
      · have hx : xs[i]? = some xs[i] := List.getElem?_eq_getElem (by omega)
        have hy : ys[i]? = some ys[i] := List.getElem?_eq_getElem (by omega)
        refine .inr ⟨⟨xs, ys, _, _, qx, qy, hx, hy⟩, fun H3 => i + 1 ≤ zs.length ∧ Ex H2 H3 ∧ H3 D = some (.lst (zs.take (i + 1))), fun H3 h3 => ⟨zs.length - (i + 1), by omega, rfl, h3⟩, fun v H3 hv => ?_⟩
        obtain ⟨T, x, y, rfl, hT, rfl, f1, f2⟩ := hv
        have ex3 : Ex H' (upd H' T (.tup [x, y])) := Ex.new hT
        obtain ⟨z, hz1, hz2⟩ := he i x y (upd H' T (.tup [x, y])) ((((e.trans e1).trans e2).trans ex).trans ex3) (f1 _ qx) (f2 _ qy)
        refine ⟨T, [x, y], rfl, st_of upd_same, rfl, x, [y], rfl, y, [], rfl, rfl, hw x y, ?_⟩
        refine hz2 _ (Ex.refl _) _ fun H4 e4 => ⟨zs.take i, e4 _ _ (ex3 _ _ hd), sz_lt (by rw [List.length_take]; omega), hlt, ?_, ?_⟩
        · exact Ex.mut ((ex.trans ex3).trans e4) hD
        · rw [upd_same, take_snoc hz1]
      · have ei : i = zs.length := by omega
        refine .inl ⟨⟨xs, ys, qx, qy, by omega⟩, ?_⟩
        rw [ei, List.take_length] at hd
        exact q D H' (fresh_back (e1.trans e2) hD) ((e1.trans e2).trans ex) hd⟩⟩
/-- over a list, each item kept -/
theorem el_lcS {j : Nat} (zs : List V) (h1 : EvS K t1 σ H xs) (hz : zs.length = xs.length) (hb : zs.length ≤ 50000) (hw : ∀ x, wipe ((wipe σ vs).set j (some x)) vs = wipe σ vs)
    (he : ∀ (i : Nat) (x : V) H1, Ex H H1 → xs[i]? = some x → ∃ z, zs[i]? = some z ∧ Ev te ((wipe σ vs).set j (some x)) H1 z) :
    EvL (tLc (iList K t1) (gName j) tYes te vs) σ H zs := fun H0 e Q q =>
  h1 H0 e _ fun p H1 e1 hp => ⟨p, rfl, ⟨xs, hp⟩, fun D hD => lc_list (xs := xs) (fun i H' => Ex H1 H' ∧ H' D = some (.lst (zs.take i))) ⟨Ex.new hD, upd_same⟩ (fun i H' _ h => ex_l h.1 hp)
    (fun i x H' hi h => ⟨hw x, by
      obtain ⟨z, hz1, hz2⟩ := he i x H' ((e.trans e1).trans h.1) hi
      have hl : i < xs.length := (List.getElem?_eq_some_iff.mp hi).1
      refine hz2 H' (Ex.refl _) _ fun H4 e4 => ⟨zs.take i, e4 _ _ h.2, sz_lt (by rw [List.length_take]; omega), Ex.mut (h.1.trans e4) hD, ?_⟩
      rw [upd_same, take_snoc hz1]⟩)
    (fun H' h => q D H' (fresh_back e1 hD) (e1.trans h.1) (by rw [h.2, ← hz, List.take_length]))⟩
/-- over range(n) -/
theorem el_lcR {ta : TA} {n : Int} {j : Nat} (zs : List V) (h1 : EvA ta σ H [.int n]) (hn : -100000 ≤ n) (hz : zs.length = n.toNat) (hb : zs.length ≤ 50000) (hw : ∀ x, wipe ((wipe σ vs).set j (some x)) vs = wipe σ vs)
    (he : ∀ (i : Nat) H1, Ex H H1 → i < zs.length → ∃ z, zs[i]? = some z ∧ Ev te ((wipe σ vs).set j (some (.int (i : Int)))) H1 z) :
    EvL (tLc (iRng1 ta) (gName j) tYes te vs) σ H zs := fun H0 e Q q =>
  h1 H0 e _ fun H1 e1 => ⟨n, rfl, by omega, by omega, fun D hD => lc_range (lo := 0) (n := n.toNat) (fun i H' => Ex H1 H' ∧ H' D = some (.lst (zs.take i))) ⟨Ex.new hD, upd_same⟩
    (fun i H' hi h => by
      have e0 : (0 : Int) + (i : Int) = (i : Int) := Int.zero_add _
      rw [e0]
      obtain ⟨z, hz1, hz2⟩ := he i H' ((e.trans e1).trans h.1) (by omega)
      refine ⟨hw _, hz2 H' (Ex.refl _) _ fun H4 e4 => ⟨zs.take i, e4 _ _ h.2, sz_lt (by rw [List.length_take]; omega), Ex.mut (h.1.trans e4) hD, ?_⟩⟩
      rw [upd_same, take_snoc hz1])
    (fun H' h => q D H' (fresh_back e1 hD) (e1.trans h.1) (by rw [h.2, show n.toNat = zs.length by omega, List.take_length]))⟩
/-- y = [.. for x in f(..)], whatever f promises -/
theorem s_asgLC {sp : Sp} {dvs args : List V} {E : XK} {ta : TA} {g : TG} {tt : TT} {D : Ends} {i : Nat} (h : EvA ta σ H args) (k : ∀ H1, Ex H H1 → sp (args ++ dvs) H1 (fun x H2 => tAsg (tLc (iList K (tC x)) g tt te vs) (gName i) D σ H2) E) :
    tAsg (tLc (iList K (tCall sp dvs E ta)) g tt te vs) (gName i) D σ H := h H (Ex.refl H) _ fun H1 e => k H1 e
theorem q_asgLC {sp : Sp} {dvs args : List V} {E : XK} {ta : TA} {g : TG} {tt : TT} {D : Ends} {i : Nat} {tz : TS} (h : EvA ta σ H args) (k : ∀ H1, Ex H H1 → sp (args ++ dvs) H1 (fun x H2 => tSeq (tAsg (tLc (iList K (tC x)) g tt te vs) (gName i)) tz D σ H2) E) :
    tSeq (tAsg (tLc (iList K (tCall sp dvs E ta)) g tt te vs) (gName i)) tz D σ H := h H (Ex.refl H) _ fun H1 e => k H1 e
end

/-! ### calls with keywords, defaults -/
theorem kwAll1 {K : PySem.W.Frag} {D : Addr} {q : Str × V} (h : ∃ u, PySem.W.nsIn K D q.1 = some (some u) ∧ RelV q.2 u) : ∀ p ∈ [q], ∃ u, PySem.W.nsIn K D p.1 = some (some u) ∧ RelV p.2 u := fun p hp => by
  rcases List.mem_cons.mp hp with rfl | hp
  · exact h
  · cases hp
section
variable {K : PySem.W.Frag} {x qual : Str} {params : Arguments} {body : List Stmt} {scope : Scope} {dvs : List V} {kws : List (Str × V)} {f : Addr} {fd : FuncData} {ps : List Str}
/-- f(a, .., k = v, ..), nothing left to a default, no defaults of place -/
theorem fund_kb0 {g : List Value → List Value → List Value} {gV : List V → List V → List V} (F : FunD K x qual params body scope [] kws f fd) (n : Nat) (ks : List Str)
    (hrel : ∀ {vs : List V} {us : List Value} {zs : List V} {ws : List Value}, Vals vs us → Vals zs ws → Vals (gV vs zs) (g us ws))
    (h : ∀ (kV doc pm : Value) (an : Option Addr) (cdv ct : Value) (us ws : List Value), us.length = n → ws.length = ks.length → bindArgs (PySem.W.fnOf x qual params body scope .none kV doc pm an cdv ct) ⟨us, ks.zip ws⟩ = pure (ps.zip (g us ws))) :
    KBn K fd ps n ks g gV := by
  obtain ⟨oc, od, dV, kV, doc, pm, an, cdv, ct, osl, rfl, lk, hcd, hD, hK⟩ := F.ex
  rcases hD with ⟨_, rfl⟩ | ⟨e, _⟩
  · exact ⟨fun s us ws X l1 l2 => .of_eq (h kV doc pm an cdv ct us ws l1 l2), hrel⟩
  · exact absurd rfl e
/-- the same of a def with defaults of place -/
theorem fund_kb1 {g : List Value → List Value → List Value} {gV : List V → List V → List V} (F : FunD K x qual params body scope dvs kws f fd) (hd : dvs ≠ []) (n : Nat) (ks : List Str)
    (hrel : ∀ {vs : List V} {us : List Value} {zs : List V} {ws : List Value}, Vals vs us → Vals zs ws → Vals (gV vs zs) (g us ws))
    (h : ∀ (T : Addr) (kV doc pm : Value) (an : Option Addr) (cdv ct : Value) (us its ws : List Value), us.length = n → its.length = dvs.length → ws.length = ks.length →
      ∃ k, bindArgs (PySem.W.fnOf x qual params body scope (.ref T) kV doc pm an cdv ct) ⟨us, ks.zip ws⟩ = seqItems? (.ref T) >>= k ∧ k (some its.toArray) = pure (ps.zip (g us ws))) :
    KBn K fd ps n ks g gV := by
  obtain ⟨oc, od, dV, kV, doc, pm, an, cdv, ct, osl, rfl, lk, hcd, hD, hK⟩ := F.ex
  rcases hD with ⟨e, _⟩ | ⟨_, T, o, its, m, rfl, lT, oT, rT⟩
  · exact absurd e hd
  · refine ⟨fun s us ws X l1 l2 => ?_, hrel⟩
    obtain ⟨k, e1, e2⟩ := h T kV doc pm an cdv ct us its ws l1 rT.length.symm l2
    refine BindsTo.of_looks fun M => ?_
    rw [e1]
    exact looks_items X lT oT (.of_pure e2)
end

/-- what the top has left -/
structure TX (K : PySem.W.Frag) (mg : Str → Option Value) where
  a_MonochordError_init : Addr
  d_MonochordError_init : FuncData
  F_MonochordError_init : Fun K "__init__" "MonochordError.__init__" s_MonochordError_init a_MonochordError_init d_MonochordError_init
  b_MonochordError_init : Binds K d_MonochordError_init ["self", "place"] []
  a_BitWriter_init : Addr
  d_BitWriter_init : FuncData
  F_BitWriter_init : Fun K "__init__" "BitWriter.__init__" s_BitWriter_init a_BitWriter_init d_BitWriter_init
  b_BitWriter_init : Binds K d_BitWriter_init ["self"] []
  a_BitWriter_write : Addr
  d_BitWriter_write : FuncData
  F_BitWriter_write : Fun K "write" "BitWriter.write" s_BitWriter_write a_BitWriter_write d_BitWriter_write
  b_BitWriter_write : Binds K d_BitWriter_write ["self", "width", "value"] []
  a_BitWriter_write_signed : Addr
  d_BitWriter_write_signed : FuncData
  F_BitWriter_write_signed : Fun K "write_signed" "BitWriter.write_signed" s_BitWriter_write_signed a_BitWriter_write_signed d_BitWriter_write_signed
  b_BitWriter_write_signed : Binds K d_BitWriter_write_signed ["self", "width", "value"] []
  a_BitWriter_write_unary : Addr
  d_BitWriter_write_unary : FuncData
  F_BitWriter_write_unary : Fun K "write_unary" "BitWriter.write_unary" s_BitWriter_write_unary a_BitWriter_write_unary d_BitWriter_write_unary
  b_BitWriter_write_unary : Binds K d_BitWriter_write_unary ["self", "count"] []
  a_BitWriter_pad : Addr
  d_BitWriter_pad : FuncData
  F_BitWriter_pad : Fun K "pad" "BitWriter.pad" s_BitWriter_pad a_BitWriter_pad d_BitWriter_pad
  b_BitWriter_pad : Binds K d_BitWriter_pad ["self"] []
  a_BitWriter_append_bytes : Addr
  d_BitWriter_append_bytes : FuncData
  F_BitWriter_append_bytes : Fun K "append_bytes" "BitWriter.append_bytes" s_BitWriter_append_bytes a_BitWriter_append_bytes d_BitWriter_append_bytes
  b_BitWriter_append_bytes : Binds K d_BitWriter_append_bytes ["self", "data"] []
  a_BitWriter_byte_list : Addr
  d_BitWriter_byte_list : FuncData
  F_BitWriter_byte_list : Fun K "byte_list" "BitWriter.byte_list" s_BitWriter_byte_list a_BitWriter_byte_list d_BitWriter_byte_list
  b_BitWriter_byte_list : Binds K d_BitWriter_byte_list ["self"] []
  a_BitWriter_bits_written : Addr
  d_BitWriter_bits_written : FuncData
  F_BitWriter_bits_written : Fun K "bits_written" "BitWriter.bits_written" s_BitWriter_bits_written a_BitWriter_bits_written d_BitWriter_bits_written
  b_BitWriter_bits_written : Binds K d_BitWriter_bits_written ["self"] []
  a_BitReader_init : Addr
  d_BitReader_init : FuncData
  F_BitReader_init : FunD K "__init__" "BitReader.__init__" (defArgs s_BitReader_init) (defBody s_BitReader_init) (defScope s_BitReader_init) [V.int 0] [] a_BitReader_init d_BitReader_init
  e3_BitReader_init : List Value
  v3_BitReader_init : Vals [] e3_BitReader_init
  b3_BitReader_init : Binds K d_BitReader_init ["self", "data", "at"] e3_BitReader_init
  a_BitReader_read : Addr
  d_BitReader_read : FuncData
  F_BitReader_read : Fun K "read" "BitReader.read" s_BitReader_read a_BitReader_read d_BitReader_read
  b_BitReader_read : Binds K d_BitReader_read ["self", "width"] []
  a_BitReader_read_signed : Addr
  d_BitReader_read_signed : FuncData
  F_BitReader_read_signed : Fun K "read_signed" "BitReader.read_signed" s_BitReader_read_signed a_BitReader_read_signed d_BitReader_read_signed
  b_BitReader_read_signed : Binds K d_BitReader_read_signed ["self", "width"] []
  a_BitReader_read_unary : Addr
  d_BitReader_read_unary : FuncData
  F_BitReader_read_unary : Fun K "read_unary" "BitReader.read_unary" s_BitReader_read_unary a_BitReader_read_unary d_BitReader_read_unary
  b_BitReader_read_unary : Binds K d_BitReader_read_unary ["self"] []
  a_BitReader_read_bytes : Addr
  d_BitReader_read_bytes : FuncData
  F_BitReader_read_bytes : Fun K "read_bytes" "BitReader.read_bytes" s_BitReader_read_bytes a_BitReader_read_bytes d_BitReader_read_bytes
  b_BitReader_read_bytes : Binds K d_BitReader_read_bytes ["self", "count"] []
  a_BitReader_skip_padding : Addr
  d_BitReader_skip_padding : FuncData
  F_BitReader_skip_padding : Fun K "skip_padding" "BitReader.skip_padding" s_BitReader_skip_padding a_BitReader_skip_padding d_BitReader_skip_padding
  b_BitReader_skip_padding : Binds K d_BitReader_skip_padding ["self"] []
  a_BitReader_rest_of_byte : Addr
  d_BitReader_rest_of_byte : FuncData
  F_BitReader_rest_of_byte : Fun K "_rest_of_byte" "BitReader._rest_of_byte" s_BitReader_rest_of_byte a_BitReader_rest_of_byte d_BitReader_rest_of_byte
  b_BitReader_rest_of_byte : Binds K d_BitReader_rest_of_byte ["self"] []
  a_BitReader_byte_place : Addr
  d_BitReader_byte_place : FuncData
  F_BitReader_byte_place : Fun K "byte_place" "BitReader.byte_place" s_BitReader_byte_place a_BitReader_byte_place d_BitReader_byte_place
  b_BitReader_byte_place : Binds K d_BitReader_byte_place ["self"] []
  a_BitReader_bit_place : Addr
  d_BitReader_bit_place : FuncData
  F_BitReader_bit_place : Fun K "bit_place" "BitReader.bit_place" s_BitReader_bit_place a_BitReader_bit_place d_BitReader_bit_place
  b_BitReader_bit_place : Binds K d_BitReader_bit_place ["self"] []
  a_BitReader_aligned : Addr
  d_BitReader_aligned : FuncData
  F_BitReader_aligned : Fun K "aligned" "BitReader.aligned" s_BitReader_aligned a_BitReader_aligned d_BitReader_aligned
  b_BitReader_aligned : Binds K d_BitReader_aligned ["self"] []
  a_law_draw : Addr
  d_law_draw : FuncData
  F_law_draw : Fun K "_law_draw" "_law_draw" s_law_draw a_law_draw d_law_draw
  b_law_draw : Binds K d_law_draw ["cell", "many", "bound"] []
  g_law_draw : mg "_law_draw" = some (.ref a_law_draw)
  a_law_cell : Addr
  d_law_cell : FuncData
  F_law_cell : Fun K "_law_cell" "_law_cell" s_law_cell a_law_cell d_law_cell
  b_law_cell : Binds K d_law_cell ["script", "k"] []
  g_law_cell : mg "_law_cell" = some (.ref a_law_cell)
  a_law_field : Addr
  d_law_field : FuncData
  F_law_field : Fun K "_law_field" "_law_field" s_law_field a_law_field d_law_field
  b_law_field : Binds K d_law_field ["cell"] []
  g_law_field : mg "_law_field" = some (.ref a_law_field)
  a_law_write : Addr
  d_law_write : FuncData
  F_law_write : Fun K "_law_write" "_law_write" s_law_write a_law_write d_law_write
  b_law_write : Binds K d_law_write ["writer", "field"] []
  g_law_write : mg "_law_write" = some (.ref a_law_write)
  a_law_read : Addr
  d_law_read : FuncData
  F_law_read : Fun K "_law_read" "_law_read" s_law_read a_law_read d_law_read
  b_law_read : Binds K d_law_read ["reader", "field"] []
  g_law_read : mg "_law_read" = some (.ref a_law_read)
  a_law_ends : Addr
  d_law_ends : FuncData
  F_law_ends : Fun K "_law_ends" "_law_ends" s_law_ends a_law_ends d_law_ends
  b_law_ends : Binds K d_law_ends ["reader", "size"] []
  g_law_ends : mg "_law_ends" = some (.ref a_law_ends)
  a_law : Addr
  d_law : FuncData
  F_law : Fun K "law" "law" s_law a_law d_law
  b_law : Binds K d_law ["script"] []
  g_law : mg "law" = some (.ref a_law)
  C_BitWriter : Addr
  cl_BitWriter : Cls K C_BitWriter
  g_BitWriter : mg "BitWriter" = some (.ref C_BitWriter)
  M_BitWriter : Mk K C_BitWriter a_BitWriter_init
  me_BitWriter_write : Meth K C_BitWriter "write" a_BitWriter_write
  me_BitWriter_write_signed : Meth K C_BitWriter "write_signed" a_BitWriter_write_signed
  me_BitWriter_write_unary : Meth K C_BitWriter "write_unary" a_BitWriter_write_unary
  me_BitWriter_pad : Meth K C_BitWriter "pad" a_BitWriter_pad
  me_BitWriter_append_bytes : Meth K C_BitWriter "append_bytes" a_BitWriter_append_bytes
  me_BitWriter_byte_list : Meth K C_BitWriter "byte_list" a_BitWriter_byte_list
  me_BitWriter_bits_written : Meth K C_BitWriter "bits_written" a_BitWriter_bits_written
  n_BitWriter_whole : NoAttr K C_BitWriter "_whole"
  n_BitWriter_held : NoAttr K C_BitWriter "_held"
  n_BitWriter_held_bits : NoAttr K C_BitWriter "_held_bits"
  C_BitReader : Addr
  cl_BitReader : Cls K C_BitReader
  g_BitReader : mg "BitReader" = some (.ref C_BitReader)
  M_BitReader : Mk K C_BitReader a_BitReader_init
  me_BitReader_read : Meth K C_BitReader "read" a_BitReader_read
  me_BitReader_read_signed : Meth K C_BitReader "read_signed" a_BitReader_read_signed
  me_BitReader_read_unary : Meth K C_BitReader "read_unary" a_BitReader_read_unary
  me_BitReader_read_bytes : Meth K C_BitReader "read_bytes" a_BitReader_read_bytes
  me_BitReader_skip_padding : Meth K C_BitReader "skip_padding" a_BitReader_skip_padding
  me_BitReader_rest_of_byte : Meth K C_BitReader "_rest_of_byte" a_BitReader_rest_of_byte
  me_BitReader_byte_place : Meth K C_BitReader "byte_place" a_BitReader_byte_place
  me_BitReader_bit_place : Meth K C_BitReader "bit_place" a_BitReader_bit_place
  me_BitReader_aligned : Meth K C_BitReader "aligned" a_BitReader_aligned
  n_BitReader_data : NoAttr K C_BitReader "_data"
  n_BitReader_position : NoAttr K C_BitReader "_position"
  C_MonochordError : Addr
  g_MonochordError : mg "MonochordError" = some (.ref C_MonochordError)
  x_MonochordError : ExK K C_MonochordError a_MonochordError_init "MonochordError"
  C_Truncated : Addr
  g_Truncated : mg "Truncated" = some (.ref C_Truncated)
  x_Truncated : ExK K C_Truncated a_MonochordError_init "Truncated"
  C_InvalidForm : Addr
  g_InvalidForm : mg "InvalidForm" = some (.ref C_InvalidForm)
  x_InvalidForm : ExK K C_InvalidForm a_MonochordError_init "InvalidForm"
  ti_MonochordError_init : PySem.W.typeIn K (.ref a_MonochordError_init) = some (.type "function")
  sv_MonochordError : PySem.W.subIn K (.ref C_MonochordError) (.type "ValueError") = some true
  su_MonochordError_MonochordError : PySem.W.subIn K (.ref C_MonochordError) (.ref C_MonochordError) = some true
  su_MonochordError_Truncated : PySem.W.subIn K (.ref C_MonochordError) (.ref C_Truncated) = some false
  su_MonochordError_InvalidForm : PySem.W.subIn K (.ref C_MonochordError) (.ref C_InvalidForm) = some false
  sv_Truncated : PySem.W.subIn K (.ref C_Truncated) (.type "ValueError") = some true
  su_Truncated_MonochordError : PySem.W.subIn K (.ref C_Truncated) (.ref C_MonochordError) = some true
  su_Truncated_Truncated : PySem.W.subIn K (.ref C_Truncated) (.ref C_Truncated) = some true
  su_Truncated_InvalidForm : PySem.W.subIn K (.ref C_Truncated) (.ref C_InvalidForm) = some false
  sv_InvalidForm : PySem.W.subIn K (.ref C_InvalidForm) (.type "ValueError") = some true
  su_InvalidForm_MonochordError : PySem.W.subIn K (.ref C_InvalidForm) (.ref C_MonochordError) = some true
  su_InvalidForm_Truncated : PySem.W.subIn K (.ref C_InvalidForm) (.ref C_Truncated) = some false
  su_InvalidForm_InvalidForm : PySem.W.subIn K (.ref C_InvalidForm) (.ref C_InvalidForm) = some true
  m_list : mg "list" = none
  m_len : mg "len" = none
  m_range : mg "range" = none
  m_int : mg "int" = none
  m_max : mg "max" = none
  u_MOST_ZEROS : Value
  c_MOST_ZEROS : mg "_MOST_ZEROS" = some u_MOST_ZEROS
  r_MOST_ZEROS : RelV (.int (56)) u_MOST_ZEROS
section
variable {P : Program} {w : World} {K : PySem.W.Frag} {mg : Str → Option Value} {base : Heap}
/-! ### int(x), bits of a number -/
theorem Ev.is {σ : L2.St} {H : Hp} {te : TE} {x y : V} (h : Ev te σ H x) (e : x = y) : Ev te σ H y := e ▸ h
theorem ev_int1 {σ : L2.St} {H : Hp} {te : TE} {i : Int} (h : Ev te σ H (.int i)) : Ev (tCB (fun xs H Q => (∃ i, xs = [V.int i] ∧ Q (V.int i) H) ∨ ∃ k, xs = [V.bl k] ∧ Q (V.int (if k = true then 1 else 0)) H) (tCons te tNil)) σ H (.int i) :=
  ev_cb (ea_cons h ea_nil) fun H1 _ Q q => .inl ⟨i, rfl, q H1 (Ex.refl H1)⟩
theorem q_augR {σ : L2.St} {H : Hp} {te : TE} {D : Ends} {tz : TS} {i : Nat} {g : Int → Int → V} {a b : Int} (h1 : σ[i]? = some (some (.int a))) (h : Ev te σ H (.int b)) (k : ∀ H1, Ex H H1 → tz D (σ.set i (some (g a b))) H1) : tSeq (tAug i te (rI0 g)) tz D σ H :=
  ⟨_, h1, h H (Ex.refl H) _ fun H1 e => ⟨a, b, rfl, rfl, k H1 e⟩⟩
theorem s_augR {σ : L2.St} {H : Hp} {te : TE} {D : Ends} {i : Nat} {g : Int → Int → V} {a b : Int} (h1 : σ[i]? = some (some (.int a))) (h : Ev te σ H (.int b)) (k : ∀ H1, Ex H H1 → D.nx (σ.set i (some (g a b))) H1) : tAug i te (rI0 g) D σ H :=
  ⟨_, h1, h H (Ex.refl H) _ fun H1 e => ⟨a, b, rfl, rfl, k H1 e⟩⟩
theorem ev_atT {K : PySem.W.Frag} {σ : L2.St} {H : Hp} {tl ti : TE} {t : Addr} {xs : List V} {n : Int} {v : V} (h : Ev tl σ H (.ref t)) (hT : SqT K H t xs) (hi : Ev ti σ H (.int n)) (ha : atI xs n = some v) : Ev (tOp (rIxT K) tl ti) σ H v := fun H1 e Q q =>
  h H1 e _ fun H2 e2 => hi H2 (e.trans e2) _ fun H3 e3 => ⟨t, xs, n, v, rfl, rfl, ex_t ((e.trans e2).trans e3) hT, ha, q H3 (e2.trans e3)⟩
local macro_rules | `(tactic| walk_at "side") => `(tactic| first
  | omega
  | (show CDivW _ _; exact ⟨by omega, by decide⟩)
  | (show CDivW _ _; exact wide_div (b := 80) (by omega) (by omega) (by decide) (by decide)))
local macro_rules | `(tactic| walk_at "evown") => `(tactic| (refine' ev_int1 ?h1; (case h1 => walk_at "ev")))
/-- numbers from 0 on, as such -/
def cs (ds : List Nat) : List Int := ds.map fun d : Nat => (d : Int)
theorem cs_of {ns : List Int} {b : Int} (h : ∀ n ∈ ns, 0 ≤ n ∧ n < b) : ∃ ds : List Nat, ns = cs ds ∧ ds.length = ns.length ∧ ∀ d ∈ ds, (d : Int) < b := by
  refine ⟨ns.map Int.toNat, ?_, List.length_map .., fun d hd => ?_⟩
  · unfold cs
    rw [List.map_map]
    conv => lhs; rw [← List.map_id ns]
    refine List.map_congr_left fun n hn => ?_
    have := (h n hn).1
    show n = ((n.toNat : Nat) : Int)
    omega
  · obtain ⟨n, hn, rfl⟩ := List.mem_map.mp hd
    have := h n hn
    omega
theorem cs_len (ds : List Nat) : (cs ds).length = ds.length := List.length_map ..
theorem cs_at {ds : List Nat} {i : Nat} {d : Nat} (h : ds[i]? = some d) : (cs ds)[i]? = some (d : Int) := by unfold cs; rw [List.getElem?_map, h]; rfl
theorem cs_take (ds : List Nat) (i : Nat) : (cs ds).take i = cs (ds.take i) := by unfold cs; rw [List.map_take]
theorem cs_drop (ds : List Nat) (i : Nat) : (cs ds).drop i = cs (ds.drop i) := by unfold cs; rw [List.map_drop]
theorem cs_append (ds es : List Nat) : cs (ds ++ es) = cs ds ++ cs es := List.map_append ..

/-- numbers of the law -/
def sp_draw : Sp := fun vs H Q _ => ∃ c m b : Int, vs = [.int c, .int m, .int b] ∧ 0 ≤ m ∧ m ≤ 5000 ∧ 0 < b ∧ b ≤ 2 ^ 64 ∧ ∀ p (ns : List Int) H', H p = none → Ex H H' → H' p = some (.lst (ns.map V.int)) → (ns.length : Int) = m → (∀ n ∈ ns, 0 ≤ n ∧ n < b) → Q (.ref p) H'
theorem ok_law_draw (T : TX K mg) : FnOk P w K mg base CX0 1 T.a_law_draw T.d_law_draw ["cell", "many", "bound"] sp_draw := by
  refine T.F_law_draw.ok sc_law_draw (fun vs H Q E h => by obtain ⟨c, m, b, rfl, _⟩ := h; rfl) (fun cdv A outer s H vs Q E hr h => ?_)
  obtain ⟨c, m, b, rfl, hm0, hm, hb0, hb, k⟩ := h
  have hb' : b ≤ 18446744073709551616 := hb
  refine ⟨_, (pss_cons (ps_set (i := 3) sc_law_draw.nd rfl (Or.inl rfl) (pe_lst pa_nil))
      (pss_cons (ps_if (pt_cmpR op_ge (pv 0) (pe_op op_pow pe_int pe_int) (nomark _)) (pss_cons (ps_for PassesOwn.never rfl (pi_range1 (by rfl) T.m_range (pa_cons (pv 1) pa_nil)) (pg_name (i := 4) sc_law_draw.nd rfl (Or.inl rfl)) (pss_cons (ps_expr (pe_bm PySem.F.plainAttrs_list PySem.F.slot_list_append PySem.F.type_list_append mt_append (pv 3) (pa_cons (pe_op op_mod (pe_callTy call_int1 (by rfl) T.m_int PyProof.Rows.boot_int (pa_cons (pv 0) pa_nil)) (pv 2)) pa_nil)))
          (pss_one (ps_set (i := 0) sc_law_draw.nd rfl (Or.inl rfl) (pe_op op_fdivW (pv 0) (pv 2))))))
        (pss_one (ps_ret (pv 3)))) pss_nil)
      (pss_cons (ps_set (i := 5) sc_law_draw.nd rfl (Or.inl rfl) (pe_op op_mod (pe_callTy call_int1 (by rfl) T.m_int PyProof.Rows.boot_int (pa_cons (pv 0) pa_nil)) pe_int))
      (pss_cons (ps_for PassesOwn.never rfl (pi_range1 (by rfl) T.m_range (pa_cons (pv 1) pa_nil)) (pg_name (i := 4) sc_law_draw.nd rfl (Or.inl rfl)) (pss_cons (ps_set (i := 5) sc_law_draw.nd rfl (Or.inl rfl) (pe_op op_mod (pe_callTy call_int1 (by rfl) T.m_int PyProof.Rows.boot_int (pa_cons (pe_op op_add (pe_op op_add (pe_op op_mul (pv 5) pe_int) pe_int) (pv 4)) pa_nil)) pe_int))
        (pss_cons (ps_set (i := 6) sc_law_draw.nd rfl (Or.inl rfl) (pe_op op_mod (pe_callTy call_int1 (by rfl) T.m_int PyProof.Rows.boot_int (pa_cons (pe_op op_add (pe_op op_mul (pv 5) pe_int) (pe_op op_mul pe_int (pv 4))) pa_nil)) pe_int))
        (pss_one (ps_expr (pe_bm PySem.F.plainAttrs_list PySem.F.slot_list_append PySem.F.type_list_append mt_append (pv 3) (pa_cons (pe_op op_mod (pe_callTy call_int1 (by rfl) T.m_int PyProof.Rows.boot_int (pa_cons (pe_op op_fdivW (pv 6) pe_int) pa_nil)) (pv 2)) pa_nil)))))))
      (pss_one (ps_ret (pv 3))))))), ?_⟩
  refine q_asgL (xs := []) (el_lst ea_nil (by decide)) fun p H1 hp e1 h1 => ?_
  refine' q_when (et_test (ev_I0 ?h1 ?h2)) ?_ ?_
  case h1 => walk_at "ev"
  case h2 => exact ev_I (ev_c) (ev_c) ⟨by decide, by decide, by decide⟩
  · intro _ H2 e2
    refine q_forR1 (n := m) (ea_cons (ev_var rfl) ea_nil) ⟨hm0, by omega⟩ (fun i σ' H' => ∃ (c' : Int) (k' : Option V) (ns : List Int), σ' = [some (.int c'), some (.int m), some (.int b), some (.ref p), k', none, none] ∧ Ex H H' ∧ H' p = some (.lst (ns.map V.int)) ∧ ns.length = i ∧ ∀ n ∈ ns, 0 ≤ n ∧ n < b)
      (fun H3 e3 => ⟨c, none, [], rfl, (e1.trans e2).trans e3, e3 _ _ (e2 _ _ h1), rfl, fun n hn => by cases hn⟩) ?_ ?_
    · rintro i σ' H' hi ⟨c', k', ns, rfl, ex, hl, hn, hns⟩
      refine q_app (v := .int (c' % b)) hl (ev_var rfl) (ev_I (ev_int1 (ev_var rfl)) (ev_var rfl) hb0) (by rw [List.length_map]; omega) fun H3 e3 => ?_
      refine s_asg (v := .int (c' / b)) (ev_I (ev_var rfl) (ev_var rfl) (by walk_at "side")) fun H4 e4 => ?_
      refine ⟨c' / b, some (.int i), ns ++ [c' % b], rfl, (Ex.mut (ex.trans e3) hp).trans e4, e4 _ _ (by rw [upd_same, List.map_append]; rfl), by rw [List.length_append, hn]; rfl, fun n hn => ?_⟩
      rcases List.mem_append.mp hn with h | h
      · exact hns n h
      · cases List.mem_singleton.mp h
        exact ⟨Int.emod_nonneg _ (by omega), Int.emod_lt_of_pos _ hb0⟩
    · rintro σ' H' ⟨c', k', ns, rfl, ex, hl, hn, hns⟩
      walk_at "ret"
      intro H3 e3
      exact k p ns H3 hp (ex.trans e3) (e3 _ _ hl) (by omega) hns
  · intro _ H2 e2
    refine q_asg (v := .int (c % 2147483647)) (ev_I (ev_int1 (ev_var rfl)) ev_c (by decide)) fun H3 e3 => ?_
    refine q_forR1 (n := m) (ea_cons (ev_var rfl) ea_nil) ⟨hm0, by omega⟩ (fun i σ' H' => ∃ (k' x : Option V) (sd : Int) (ns : List Int), σ' = [some (.int c), some (.int m), some (.int b), some (.ref p), k', some (.int sd), x] ∧ Ex H H' ∧ H' p = some (.lst (ns.map V.int)) ∧ ns.length = i ∧ ∀ n ∈ ns, 0 ≤ n ∧ n < b)
      (fun H4 e4 => ⟨none, none, _, [], rfl, ((e1.trans e2).trans e3).trans e4, e4 _ _ (e3 _ _ (e2 _ _ h1)), rfl, fun n hn => by cases hn⟩) ?_ ?_
    · rintro i σ' H' hi ⟨k', x, sd, ns, rfl, ex, hl, hn, hns⟩
      refine q_asg (v := .int ((sd * 48271 + 12345 + (i : Int)) % 2147483647)) (ev_I (ev_int1 (ev_I0 (ev_I0 (ev_I (ev_var rfl) ev_c (.inr (by decide))) ev_c) (ev_var rfl))) ev_c (by decide)) fun H4 e4 => ?_
      generalize (sd * 48271 + 12345 + (i : Int)) % 2147483647 = sd2
      refine q_asg (v := .int ((sd2 * 69621 + 977 * (i : Int)) % 2147483629)) (ev_I (ev_int1 (ev_I0 (ev_I (ev_var rfl) ev_c (.inr (by decide))) (ev_I ev_c (ev_var rfl) (.inl (by decide))))) ev_c (by decide)) fun H5 e5 => ?_
      generalize (sd2 * 69621 + 977 * (i : Int)) % 2147483629 = mx
      refine s_app (v := .int (mx / 3 % b)) (e5 _ _ (e4 _ _ hl)) (ev_var rfl) (ev_I (ev_int1 (ev_I (ev_var rfl) ev_c ⟨by decide, by decide⟩)) (ev_var rfl) hb0) (by rw [List.length_map]; omega) fun H6 e6 => ?_
      refine ⟨_, _, sd2, ns ++ [mx / 3 % b], rfl, Ex.mut (((ex.trans e4).trans e5).trans e6) hp, by rw [upd_same, List.map_append]; rfl, by rw [List.length_append, hn]; rfl, fun n hn => ?_⟩
      rcases List.mem_append.mp hn with h | h
      · exact hns n h
      · cases List.mem_singleton.mp h
        exact ⟨Int.emod_nonneg _ (by omega), Int.emod_lt_of_pos _ hb0⟩
    · rintro σ' H' ⟨k', x, sd, ns, rfl, ex, hl, hn, hns⟩
      walk_at "ret"
      intro H4 e4
      exact k p ns H4 hp (ex.trans e4) (e4 _ _ hl) (by omega) hns

def sp_cell (K : PySem.W.Frag) : Sp := fun vs H Q _ => ∃ (a : Addr) (ns : List Int) (k : Int), vs = [.ref a, .int k] ∧ SqL K H a (ns.map V.int) ∧ 0 ≤ k ∧ RetV (.int (cellI ns k)) H Q
theorem ok_law_cell (T : TX K mg) : FnOk P w K mg base CX0 1 T.a_law_cell T.d_law_cell ["script", "k"] (sp_cell K) := by
  refine T.F_law_cell.ok sc_law_cell (fun vs H Q E h => by obtain ⟨a, ns, k, rfl, _⟩ := h; rfl) (fun cdv A outer s H vs Q E hr h => ?_)
  obtain ⟨a, ns, k, rfl, hS, hk, q⟩ := h
  refine ⟨_, (pss_cons (ps_if (pt_cmpR op_lt (pv 1) (pe_callB (r := rLenS K) call_len_seq (by rfl) T.m_len PySem.boot_len (pa_cons (pv 0) pa_nil)) (nomark _)) (pss_one (ps_ret (pe_ix (r := rIxL K) ix_list (pv 0) (pv 1) (fun _ _ => rfl)))) pss_nil)
      (pss_one (ps_ret pe_int))), ?_⟩
  have hl := (ev_lenS (K := K) (Ev.s (te := tVar 0) (σ := start ["script", "k"] [.ref a, .int k]) (ev_var rfl) hS))
  refine q_when (et_test (ev_I0 (ev_var rfl) hl)) ?_ ?_
  · intro hb H1 e1
    have hb : k < ns.length := by
      have := of_decide_eq_true hb
      rwa [List.length_map] at this
    refine s_ret (v := .int (cellI ns k)) (ev_ixS (i := 0) (n := k) (Ev.s (ev_var rfl) (ex_l e1 hS)) (ev_var rfl) ?_) fun H2 e2 => q H2 (e1.trans e2)
    exact at_of (j := k.toNat) (by omega) (at_int (cellI_in hk hb))
  · intro hb H1 e1
    have hb : ¬ k < ns.length := by
      have := of_decide_eq_false hb
      rwa [List.length_map] at this
    walk_at "ret"
    intro H2 e2
    exact ret_eq q (e1.trans e2) (by rw [cellI_out hb])
theorem ev_cell {σ : L2.St} {H : Hp} {ta tk : TE} {E : XK} {ns : List Int} {k : Int} {a : Addr} (ha : Ev ta σ H (.ref a)) (hS : SqL K H a (ns.map V.int)) (hk : Ev tk σ H (.int k)) (h0 : 0 ≤ k) : Ev (tCall (sp_cell K) [] E (tCons ta (tCons tk tNil))) σ H (.int (cellI ns k)) :=
  ev_call (ea_cons ha (ea_cons hk ea_nil)) fun H1 e Q q _ => ⟨a, ns, k, rfl, ex_l e hS, h0, q⟩
local macro_rules | `(tactic| walk_at "evown") => `(tactic| (refine' ev_cell ?h1 ?h2 ?h3 ?h4; (case h1 => exact ev_var rfl); (case h2 => walk_at "sq"); (case h3 => walk_at "ev"); (case h4 => walk_at "side")))

/-! ### objects: fields, methods, making -/
section
variable {K : PySem.W.Frag} {σ : L2.St} {H : Hp} {to te tv : TE} {a C : Addr} {dx : Addr} {fs : List (Str × V)} {f m : Str} {v : V} {D : Ends} {tz : TS} {sp : Sp} {dvs vs : List V} {E : XK} {t : TA}
theorem ev_fld (c : Cls K C) (hn : NoAttr K C f) (h : Ev to σ H (.ref a)) (hx : H a = some (.ins C dx fs)) (hl : fs.lookup f = some v) : Ev (tFld K to f) σ H v := fun H1 e Q q => h H1 e _ fun H2 e2 => ⟨a, C, dx, fs, v, rfl, (e.trans e2) _ _ hx, c, hn, hl, q H2 e2⟩
theorem q_fld (c : Cls K C) (hn : NoAttr K C f) (hv : Ev tv σ H v) (h : Ev to σ H (.ref a)) (hx : H a = some (.ins C dx fs)) (hl : fs.length < 1000) (k : ∀ H1, Ex H H1 → tz D σ (upd H1 a (.ins C dx (putF f v fs)))) : tSeq (sFld K to tv f) tz D σ H :=
  hv H (Ex.refl H) _ fun H1 e1 => h H1 e1 _ fun H2 e2 => ⟨a, C, dx, fs, rfl, (e1.trans e2) _ _ hx, c, hn, hl, k H2 (e1.trans e2)⟩
theorem s_fld (c : Cls K C) (hn : NoAttr K C f) (hv : Ev tv σ H v) (h : Ev to σ H (.ref a)) (hx : H a = some (.ins C dx fs)) (hl : fs.length < 1000) (k : ∀ H1, Ex H H1 → D.nx σ (upd H1 a (.ins C dx (putF f v fs)))) : sFld K to tv f D σ H :=
  hv H (Ex.refl H) _ fun H1 e1 => h H1 e1 _ fun H2 e2 => ⟨a, C, dx, fs, rfl, (e1.trans e2) _ _ hx, c, hn, hl, k H2 (e1.trans e2)⟩
theorem q_fldL {xs : List V} (c : Cls K C) (hn : NoAttr K C f) (hv : EvL tv σ H xs) (h : ∀ H1, Ex H H1 → Ev to σ H1 (.ref a)) (hx : H a = some (.ins C dx fs)) (hl : fs.length < 1000) (k : ∀ p H1, H p = none → Ex H H1 → H1 p = some (.lst xs) → tz D σ (upd H1 a (.ins C dx (putF f (.ref p) fs)))) : tSeq (sFld K to tv f) tz D σ H :=
  hv H (Ex.refl H) _ fun p H1 hp e1 g1 => h H1 e1 H1 (Ex.refl H1) _ fun H2 e2 => ⟨a, C, dx, fs, rfl, (e1.trans e2) _ _ hx, c, hn, hl, k p H2 hp (e1.trans e2) (e2 _ _ g1)⟩
/-- o.m(..), whatever m promises -/
theorem mth (h : Ev to σ H (.ref a)) (hx : H a = some (.ins C dx fs)) (hm : fs.lookup m = none) (ha : EvA t σ H vs) {Q : VK} (k : ∀ H1, Ex H H1 → sp (.ref a :: (vs ++ dvs)) H1 Q E) : tMeth C m sp dvs E to t σ H Q :=
  h H (Ex.refl H) _ fun H1 e1 => ⟨a, dx, fs, rfl, e1 _ _ hx, hm, ha H1 e1 _ fun H2 e2 => k H2 (e1.trans e2)⟩
theorem q_dropM (h : Ev to σ H (.ref a)) (hx : H a = some (.ins C dx fs)) (hm : fs.lookup m = none) (ha : EvA t σ H vs) (k : ∀ H1, Ex H H1 → sp (.ref a :: (vs ++ dvs)) H1 (fun _ H2 => tz D σ H2) E) : tSeq (tDrop (tMeth C m sp dvs E to t)) tz D σ H := mth h hx hm ha k
theorem s_dropM (h : Ev to σ H (.ref a)) (hx : H a = some (.ins C dx fs)) (hm : fs.lookup m = none) (ha : EvA t σ H vs) (k : ∀ H1, Ex H H1 → sp (.ref a :: (vs ++ dvs)) H1 (fun _ H2 => D.nx σ H2) E) : tDrop (tMeth C m sp dvs E to t) D σ H := mth h hx hm ha k
theorem q_asgM {i : Nat} (h : Ev to σ H (.ref a)) (hx : H a = some (.ins C dx fs)) (hm : fs.lookup m = none) (ha : EvA t σ H vs) (k : ∀ H1, Ex H H1 → sp (.ref a :: (vs ++ dvs)) H1 (fun x H2 => tz D (σ.set i (some x)) H2) E) : tSeq (tAsg (tMeth C m sp dvs E to t) (gName i)) tz D σ H := mth h hx hm ha k
theorem s_retM (h : Ev to σ H (.ref a)) (hx : H a = some (.ins C dx fs)) (hm : fs.lookup m = none) (ha : EvA t σ H vs) (k : ∀ H1, Ex H H1 → sp (.ref a :: (vs ++ dvs)) H1 D.rt E) : tRet (tMeth C m sp dvs E to t) D σ H := mth h hx hm ha k
/-- a method that changes nothing and gives a value -/
theorem ev_mth (h : Ev to σ H (.ref a)) (hx : H a = some (.ins C dx fs)) (hm : fs.lookup m = none) (ha : EvA t σ H vs) (k : SpV sp (.ref a :: (vs ++ dvs)) H v) : Ev (tMeth C m sp dvs E to t) σ H v := fun H1 e Q q =>
  h H1 e _ fun H2 e2 => ⟨a, dx, fs, rfl, (e.trans e2) _ _ hx, hm, ha H2 (e.trans e2) _ fun H3 e3 => k H3 ((e.trans e2).trans e3) Q (fun H4 e4 => q H4 ((e2.trans e3).trans e4)) E⟩
end
theorem fresh_ne {H : Hp} {p q : Addr} {o : HO} (hp : H p = none) (hq : H q = some o) : q ≠ p := ne_of_none hq hp
theorem bitNot_eq (x : Int) : Builtin.bitNot x = -x - 1 := rfl
theorem bitAnd_maskZ (x : Int) (k : Nat) : Builtin.bitAnd x (2 ^ k - 1) = x % 2 ^ k := by
  by_cases h : 0 ≤ x
  · exact _root_.Bits.bitAnd_mask k h
  · have hp : (1 : Int) ≤ 2 ^ k := by
      have : 0 < 2 ^ k := Nat.two_pow_pos k
      have h2 : ((2 : Int) ^ k) = ((2 ^ k : Nat) : Int) := by rw [Int.natCast_pow]; rfl
      omega
    rw [PyProof.Rows.bitAnd_np h (by omega), Nat.and_comm]
    have h2 : ((2 : Int) ^ k) = ((2 ^ k : Nat) : Int) := by rw [Int.natCast_pow]; rfl
    have h3 : ((2 : Int) ^ k - 1).toNat = 2 ^ k - 1 := by omega
    rw [h3, Nat.and_two_pow_sub_one_eq_mod, bitNot_eq]
    have h4 : ((-x - 1).toNat : Int) = -x - 1 := by omega
    rw [h2, Int.natCast_emod, h4]
    generalize 2 ^ k = m at *
    have hm : (0 : Int) < (m : Int) := by omega
    have e1 := Int.emod_add_mul_ediv x m
    have e2 := Int.emod_add_mul_ediv (-x - 1) m
    have a1 := Int.emod_nonneg x (by omega : (m : Int) ≠ 0)
    have a2 := Int.emod_lt_of_pos x hm
    have b1 := Int.emod_nonneg (-x - 1) (by omega : (m : Int) ≠ 0)
    have b2 := Int.emod_lt_of_pos (-x - 1) hm
    generalize x % (m : Int) = r at *
    generalize (-x - 1) % (m : Int) = s at *
    generalize x / (m : Int) = p at *
    generalize (-x - 1) / (m : Int) = q at *
    -- r + s + 1 is a multiple of m between 1 and 2m - 1
    have e3 : r + s + 1 = m * (-(p + q)) := by
      rw [Int.mul_neg, Int.mul_add]
      omega
    have h5 : -(p + q) = 1 := by
      have c1 : 0 < (m : Int) * (-(p + q)) := by omega
      have c2 : (m : Int) * (-(p + q)) < m * 2 := by omega
      have c3 := Int.pos_of_mul_pos_right (a := (m : Int)) (b := -(p + q)) (by exact c1) hm
      have c4 : -(p + q) < 2 := Int.lt_of_mul_lt_mul_left c2 (by omega)
      omega
    rw [h5, Int.mul_one] at e3
    omega
theorem q_fldaugI {K : PySem.W.Frag} {σ : L2.St} {H : Hp} {to tv : TE} {a C dx : Addr} {fs : List (Str × V)} {f : Str} {i j : Int} {D : Ends} {tz : TS} (c : Cls K C) (hn : NoAttr K C f) (h : Ev to σ H (.ref a)) (hx : H a = some (.ins C dx fs)) (hl : fs.lookup f = some (.int i)) (hv : Ev tv σ H (.int j)) (hz : fs.length < 1000)
    (k : ∀ H1, Ex H H1 → tz D σ (upd H1 a (.ins C dx (putF f (.int (i + j)) fs)))) : tSeq (sFldAug K to tv rAdd f) tz D σ H :=
  h H (Ex.refl H) _ fun H1 e1 => ⟨a, C, dx, fs, .int i, rfl, e1 _ _ hx, c, hn, hl, hv H1 e1 _ fun H2 e2 => ⟨i, j, rfl, rfl, dx, fs, (e1.trans e2) _ _ hx, hz, k H2 (e1.trans e2)⟩⟩
/-- [e for j in range(n)] whose element changes objects -/
theorem tlc_rngM {ta : TA} {te : TE} {vs : List Nat} {n : Int} {j : Nat} {σ : L2.St} {H : Hp} {Q : VK} (h : EvA ta σ H [.int n]) (hn : -100000 ≤ n ∧ n ≤ 100000)
    (k : ∀ H1, Ex H H1 → ∀ Dl, H1 Dl = none → ∃ Pv : Nat → Hp → Prop, Pv 0 (upd H1 Dl (.lst [])) ∧ (∀ (i : Nat) H', i < n.toNat → Pv i H' → wipe ((wipe σ vs).set j (some (.int (i : Int)))) vs = wipe σ vs ∧ te ((wipe σ vs).set j (some (.int (i : Int)))) H' fun y H4 => ∃ acc, H4 Dl = some (.lst acc) ∧ acc.length < sizeLine ∧ Pv (i + 1) (upd H4 Dl (.lst (acc ++ [y])))) ∧ (∀ H', Pv n.toNat H' → Q (.ref Dl) H')) :
    tLc (iRng1 ta) (gName j) tYes te vs σ H Q := h H (Ex.refl H) _ fun H1 e1 => ⟨n, rfl, by omega, by omega, fun Dl hD => by
  obtain ⟨Pv, h0, hs, hd⟩ := k H1 e1 Dl hD
  refine lc_range (lo := 0) (n := n.toNat) Pv h0 (fun i H' hi p => ?_) hd
  rw [Int.zero_add]
  exact hs i H' hi p⟩

def bits8 (b : Nat) : List Bool := (List.range 8).map fun k => b.testBit (7 - k)
/-! ### fields of bits -/
def bitsN (n v : Nat) : List Bool := (List.range n).map fun k => v.testBit (n - 1 - k)
theorem bitsN_len (n v : Nat) : (bitsN n v).length = n := by unfold bitsN; rw [List.length_map, List.length_range]
theorem bitsN_at {n v i : Nat} (h : i < n) : (bitsN n v)[i]? = some (v.testBit (n - 1 - i)) := by
  unfold bitsN
  rw [List.getElem?_map, List.getElem?_range h]
  rfl
theorem bitsN_congr {n v u : Nat} (h : ∀ i, i < n → v.testBit i = u.testBit i) : bitsN n v = bitsN n u := by
  unfold bitsN
  exact List.map_congr_left fun k hk => h _ (by have := List.mem_range.mp hk; omega)
theorem bitsN_mod (n v : Nat) : bitsN n (v % 2 ^ n) = bitsN n v := bitsN_congr fun i hi => by rw [Nat.testBit_mod_two_pow, decide_eq_true hi, Bool.true_and]
theorem bitsN_add (n w x : Nat) : bitsN (n + w) x = bitsN n (x / 2 ^ w) ++ bitsN w x := by
  refine List.ext_getElem? fun i => ?_
  by_cases h : i < n
  · rw [List.getElem?_append_left (by rw [bitsN_len]; exact h), bitsN_at h, bitsN_at (by omega), Nat.testBit_div_two_pow, show n - 1 - i + w = n + w - 1 - i by omega]
  · rw [List.getElem?_append_right (by rw [bitsN_len]; omega), bitsN_len]
    by_cases h2 : i - n < w
    · rw [bitsN_at h2, bitsN_at (by omega), show w - 1 - (i - n) = n + w - 1 - i by omega]
    · rw [List.getElem?_eq_none (by rw [bitsN_len]; omega), List.getElem?_eq_none (by rw [bitsN_len]; omega)]
theorem bitsN_cat {n w h v : Nat} (hv : v < 2 ^ w) : bitsN (n + w) (h * 2 ^ w + v) = bitsN n h ++ bitsN w v := by
  rw [bitsN_add]
  congr 1
  · rw [Nat.add_comm, Nat.add_mul_div_right _ _ (Nat.two_pow_pos w), Nat.div_eq_of_lt hv, Nat.zero_add]
  · rw [← bitsN_mod, Nat.add_comm, Nat.add_mul_mod_self_right, bitsN_mod]
theorem bits8_N (b : Nat) : bits8 b = bitsN 8 b := rfl
theorem bitsN_zero (n : Nat) : bitsN n 0 = List.replicate n false := by
  unfold bitsN
  refine List.ext_getElem? fun i => ?_
  rw [List.getElem?_map]
  by_cases h : i < n
  · rw [List.getElem?_range h, List.getElem?_replicate, if_pos h]
    show some (Nat.testBit 0 _) = _
    rw [Nat.zero_testBit]
  · rw [List.getElem?_eq_none (by rw [List.length_range]; omega), List.getElem?_eq_none (by rw [List.length_replicate]; omega)]
    rfl
theorem bits_flat_len (ws : List Nat) : (ws.flatMap bits8).length = 8 * ws.length := by
  induction ws with
  | nil => rfl
  | cons d r ih =>
    rw [List.flatMap_cons, List.length_append, ih, List.length_cons]
    show 8 + _ = _
    omega

/-! ### lists of bits, as numbers -/
def b2 (b : Bool) : Int := if b then 1 else 0
theorem b2_bit (n i : Nat) : Builtin.bitAnd ((n : Int) / 2 ^ i) 1 = b2 (n.testBit i) := by
  have h1 : ((n : Int) / 2 ^ i) = ((n / 2 ^ i : Nat) : Int) := by
    rw [Int.natCast_ediv, Int.natCast_pow]
    rfl
  rw [h1, PyProof.Rows.bitAnd_m1, Nat.testBit_eq_decide_div_mod_eq]
  unfold b2
  by_cases h : n / 2 ^ i % 2 = 1
  · rw [decide_eq_true h, if_pos rfl]
    omega
  · rw [decide_eq_false h, if_neg (by decide)]
    omega
def bI (ms : List Bool) : List Int := ms.map b2
theorem bI_len (ms : List Bool) : (bI ms).length = ms.length := List.length_map ..
theorem bI_append (ms ns : List Bool) : bI (ms ++ ns) = bI ms ++ bI ns := List.map_append ..
theorem bI_at {ms : List Bool} {i : Nat} {b : Bool} (h : ms[i]? = some b) : (bI ms)[i]? = some (b2 b) := by unfold bI; rw [List.getElem?_map, h]; rfl
theorem bI_false (n : Nat) : bI (List.replicate n false) = List.replicate n 0 := by unfold bI; rw [List.map_replicate]; rfl
theorem ev_bit {σ : L2.St} {H : Hp} {t1 t2 : TE} {n i : Nat} {j : Int} (h1 : Ev t1 σ H (.int (n : Int))) (h2 : Ev t2 σ H (.int j)) (hj : j = (i : Int)) : Ev (tOp (rI0 fun i j => .int (Builtin.bitAnd i j)) (tOp (rI (fun _ j => 0 ≤ j) fun i j => .int (i / 2 ^ j.toNat)) t1 t2) (tC (.int 1))) σ H (.int (b2 (n.testBit i))) := by
  subst hj
  exact Ev.is (ev_I0 (ev_I h1 h2 (by show (0 : Int) ≤ _; omega)) ev_c) (congrArg V.int (by rw [Int.toNat_natCast]; exact b2_bit n i))
def valL (ms : List Bool) : Nat := ms.foldl (fun a b => 2 * a + b.toNat) 0
theorem valL_snoc (ms : List Bool) (b : Bool) : valL (ms ++ [b]) = 2 * valL ms + b.toNat := by unfold valL; rw [List.foldl_append]; rfl
theorem valL_8 : ∀ d, d < 256 → valL (bits8 d) = d := by decide +kernel
def padN (n : Nat) : Nat := (8 - n % 8) % 8
theorem b2_nat (b : Bool) : b2 b = (b.toNat : Int) := by cases b <;> rfl

theorem pow_cast (k : Nat) : ((2 : Int) ^ k) = ((2 ^ k : Nat) : Int) := by rw [Int.natCast_pow]; rfl
/-! ### own errors, made and looked at -/
theorem kitOne_ref {D C : Addr} {b : Bool} {fI : Addr} {nm : Str} (x : ExK K C fI nm) (h : PySem.W.subIn K (.ref D) (.ref C) = some b) (hD : PySem.W.subIn K (.ref D) (.ref D) = some true) : PySem.W.kitOne K (.ref D) (.ref C) = some b := by
  unfold PySem.W.kitOne
  by_cases e : D = C
  · subst e
    rw [hD] at h
    rw [if_pos (beq_self_eq_true _), ← h]
  · rw [if_neg (fun z => e (Value.ref.inj (beq_iff_eq.mp z)))]
    obtain ⟨cd, hc, _⟩ := PySem.W.any_some x.ex.hd
    show (if ((PySem.W.clsIn K C).isSome && PySem.W.typeIn K (.ref C) == some (.type "type")) = true then PySem.W.subIn K (.ref D) (.ref C) else none) = some b
    rw [if_pos (by rw [hc, x.tyC] <;> rfl), h]
theorem kitOne_VE {D : Addr} (h : PySem.W.subIn K (.ref D) (.type "ValueError") = some true) : PySem.W.kitOne K (.ref D) (.type "ValueError") = some true := by
  unfold PySem.W.kitOne
  rw [if_neg (fun z => by cases beq_iff_eq.mp z)]
  show (if PySem.W.kitMeta "ValueError" = true then PySem.W.subIn K (.ref D) (.type "ValueError") else none) = some true
  rw [if_pos (by decide +kernel), h]
theorem exm_su {D C : Addr} {b : Bool} {fI : Addr} {nm : Str} (x : ExK K C fI nm) (h : PySem.W.subIn K (.ref D) (.ref C) = some b) : PySem.W.exmOne K (.ref D) (.ref C) = some b := PySem.W.exm_ref x.ex.hs x.ex.hd x.tyC h
theorem ok_MonochordError_init (T : TX K mg) : FnOk P w K mg base CX0 1 T.a_MonochordError_init T.d_MonochordError_init ["self", "place"] (sp_einit K) := by
  refine T.F_MonochordError_init.ok sc_MonochordError_init (fun vs H Q E h => by obtain ⟨a, C, fI, nm, n, rfl, _⟩ := h; rfl) (fun cdv A outer s H vs Q E hr h => ?_)
  obtain ⟨a, C, fI, nm, n, rfl, T1, ha, k⟩ := h
  refine ⟨_, (pss_cons (ps_ost (pv 0) (pv 1))
      (pss_one (ps_ost (pv 0) (pe_clsname (pv 0))))), ?_⟩
  refine ⟨.int n, rfl, .ref a, rfl, a, C, rfl, T1.ox, T1.nP, .inl ⟨ha, fun dx hdx ne => ?_⟩⟩
  have h2 : upd (upd H dx (exd dx [("place", .int n)])) a (exo a C (some dx)) dx = some (exd dx [("place", .int n)]) := by rw [upd_ne ne]; exact upd_same
  refine ⟨.ref a, rfl, a, C, dx, [("place", .int n)], fI, nm, rfl, T1, upd_same, h2, .ref a, rfl, a, C, rfl, T1.ox, T1.nN, .inr ⟨dx, [("place", .int n)], upd_same, h2, Nat.le_of_ble_eq_true rfl, ?_⟩⟩
  refine k dx _ hdx ne (fun b o nb hb => ?_) ?_ upd_same
  · have nd : b ≠ dx := fun z => by rw [z, hdx] at hb; cases hb
    rw [upd_ne nd, upd_ne nb, upd_ne nd]
    exact hb
  · rw [upd_ne ne.symm]
    exact upd_same
/-- isinstance(error, c), error.f in the suite that holds it -/
theorem ev_isA {σ : L2.St} {H : Hp} {te : TE} {a C C2 dd : Addr} {cls : Value} {d : Option Addr} {fs : List (Str × V)} {b : Bool} (ha : Ev te σ H (.ref a)) (hc : cls = .ref C) (T : ExcC K C) (hd : d = some dd) (hx : H dd = some (.xd fs)) (hk : PySem.W.kitOne K (.ref C) (.ref C2) = some b) :
    Ev (tCB (rIsA K cls d a) (tCons te (tCons (tC (.ref C2)) tNil))) σ H (.bl b) := fun H1 e Q q =>
  ha H1 e _ fun H2 e2 => ⟨C, .ref C2, .ref C2, b, dd, fs, hc, T, hd, (e.trans e2) _ _ hx, rfl, fun u r => r, hk, q H2 e2⟩
theorem ev_isVE {σ : L2.St} {H : Hp} {te : TE} {a C dd : Addr} {cls : Value} {d : Option Addr} {fs : List (Str × V)} {b : Bool} (ha : Ev te σ H (.ref a)) (hc : cls = .ref C) (T : ExcC K C) (hd : d = some dd) (hx : H dd = some (.xd fs)) (hk : PySem.W.kitOne K (.ref C) (.type "ValueError") = some b) :
    Ev (tCB (rIsA K cls d a) (tCons te (tCons (tC (.ty "ValueError")) tNil))) σ H (.bl b) := fun H1 e Q q =>
  ha H1 e _ fun H2 e2 => ⟨C, .ty "ValueError", .type "ValueError", b, dd, fs, hc, T, hd, (e.trans e2) _ _ hx, rfl, fun u r => r, hk, q H2 e2⟩
theorem ev_xfA {σ : L2.St} {H : Hp} {te : TE} {a C dd : Addr} {cls : Value} {d : Option Addr} {f : Str} {fs : List (Str × V)} {v : V} (ha : Ev te σ H (.ref a)) (hc : cls = .ref C) (T : XfC K C) (hn : PySem.W.findIn K (.ref C) f = some none) (hd : d = some dd) (hx : H dd = some (.xd fs)) (hl : fs.lookup f = some v) :
    Ev (tXfA K a cls d f te) σ H v := fun H1 e Q q => ha H1 e _ fun H2 e2 => ⟨rfl, C, hc, T, hn, dd, fs, v, hd, (e.trans e2) _ _ hx, hl, q H2 e2⟩
/-! o.m(..) that may let an error out -/
section
variable {σ : L2.St} {H : Hp} {to : TE} {a C dx : Addr} {fs : List (Str × V)} {m : Str} {D : Ends} {tz : TS} {sp : Sp} {dvs vs : List V} {E : L2.St → XK} {t : TA} {v : V}
theorem mthX (h : Ev to σ H (.ref a)) (hx : H a = some (.ins C dx fs)) (hm : fs.lookup m = none) (ha : EvA t σ H vs) {Q : VK} (k : ∀ H1, Ex H H1 → sp (.ref a :: (vs ++ dvs)) H1 Q (E σ)) : tMethX C m sp dvs E to t σ H Q :=
  h H (Ex.refl H) _ fun H1 e1 => ⟨a, dx, fs, rfl, e1 _ _ hx, hm, ha H1 e1 _ fun H2 e2 => k H2 (e1.trans e2)⟩
theorem q_asgMX {i : Nat} (h : Ev to σ H (.ref a)) (hx : H a = some (.ins C dx fs)) (hm : fs.lookup m = none) (ha : EvA t σ H vs) (k : ∀ H1, Ex H H1 → sp (.ref a :: (vs ++ dvs)) H1 (fun x H2 => tz D (σ.set i (some x)) H2) (E σ)) : tSeq (tAsg (tMethX C m sp dvs E to t) (gName i)) tz D σ H := mthX h hx hm ha k
theorem s_retMX (h : Ev to σ H (.ref a)) (hx : H a = some (.ins C dx fs)) (hm : fs.lookup m = none) (ha : EvA t σ H vs) (k : ∀ H1, Ex H H1 → sp (.ref a :: (vs ++ dvs)) H1 D.rt (E σ)) : tRet (tMethX C m sp dvs E to t) D σ H := mthX h hx hm ha k
theorem q_asgCX {i : Nat} (h : EvA t σ H vs) (k : ∀ H1, Ex H H1 → sp (vs ++ dvs) H1 (fun x H2 => tz D (σ.set i (some x)) H2) (E σ)) : tSeq (tAsg (tCallX sp dvs E t) (gName i)) tz D σ H := h H (Ex.refl H) _ fun H1 e => k H1 e
theorem s_retCX (h : EvA t σ H vs) (k : ∀ H1, Ex H H1 → sp (vs ++ dvs) H1 D.rt (E σ)) : tRet (tCallX sp dvs E t) D σ H := h H (Ex.refl H) _ fun H1 e => k H1 e
end

/-! ### BitReader -/
theorem flat_drop : ∀ (ds : List Nat) (a : Nat), (ds.flatMap bits8).drop (8 * a) = (ds.drop a).flatMap bits8
  | [], a => by rw [List.flatMap_nil, List.drop_nil, List.drop_nil, List.flatMap_nil]
  | d :: r, 0 => rfl
  | d :: r, a + 1 => by
    rw [List.flatMap_cons, show 8 * (a + 1) = (bits8 d).length + 8 * a by show _ = 8 + 8 * a; omega, List.drop_append, List.drop_of_length_le (by omega), List.nil_append, show (bits8 d).length + 8 * a - (bits8 d).length = 8 * a by omega]
    exact flat_drop r a
theorem flat_take : ∀ (ds : List Nat) (m : Nat), (ds.flatMap bits8).take (8 * m) = (ds.take m).flatMap bits8
  | [], m => by rw [List.flatMap_nil, List.take_nil, List.take_nil, List.flatMap_nil]
  | d :: r, 0 => rfl
  | d :: r, m + 1 => by
    rw [List.flatMap_cons, show 8 * (m + 1) = (bits8 d).length + 8 * m by show _ = 8 + 8 * m; omega, List.take_append, List.take_of_length_le (by omega), show (bits8 d).length + 8 * m - (bits8 d).length = 8 * m by omega, flat_take r m]
    rfl
def numB (bs : List Nat) : Nat := bs.foldl (fun a b => a * 2 ^ 8 + b) 0
theorem numB_snoc (bs : List Nat) (b : Nat) : numB (bs ++ [b]) = numB bs * 2 ^ 8 + b := by unfold numB; rw [List.foldl_append]; rfl
theorem numB_bits (bs : List Nat) (h : ∀ b ∈ bs, b < 256) : ∀ k, k ≤ bs.length → bitsN (8 * k) (numB (bs.take k)) = (bs.take k).flatMap bits8 ∧ numB (bs.take k) < 2 ^ (8 * k)
  | 0, _ => ⟨rfl, by rw [List.take_zero]; decide⟩
  | k + 1, hk => by
    obtain ⟨h1, h2⟩ := numB_bits bs h k (by omega)
    have hb : bs[k]? = some bs[k] := List.getElem?_eq_getElem (by omega)
    have hlt : bs[k] < 2 ^ 8 := h _ (List.getElem_mem (by omega))
    rw [show bs.take (k + 1) = bs.take k ++ [bs[k]] from by rw [List.take_add_one, hb]; rfl, numB_snoc, show 8 * (k + 1) = 8 * k + 8 by omega, bitsN_cat hlt, h1, List.flatMap_append, List.flatMap_cons, List.flatMap_nil, List.append_nil]
    refine ⟨rfl, ?_⟩
    rw [Nat.pow_add]
    have : (numB (bs.take k) + 1) * 2 ^ 8 ≤ 2 ^ (8 * k) * 2 ^ 8 := Nat.mul_le_mul_right _ h2
    rw [Nat.add_mul, Nat.one_mul] at this
    omega
theorem valL_bitsN : ∀ (w v : Nat), valL (bitsN w v) = v % 2 ^ w
  | 0, v => by rw [Nat.pow_zero, Nat.mod_one]; rfl
  | w + 1, v => by
    rw [bitsN_add w 1 v]
    show valL (bitsN w (v / 2 ^ 1) ++ [v.testBit 0]) = _
    have e : v % 2 ^ (w + 1) = v % 2 + 2 * (v / 2 % 2 ^ w) := by rw [Nat.pow_succ, Nat.mul_comm, Nat.mod_mul]
    rw [valL_snoc, valL_bitsN w (v / 2 ^ 1), Nat.pow_one, e, Nat.testBit_zero]
    have := Nat.mod_two_eq_zero_or_one v
    rcases this with h | h
    · rw [h]
      show _ + 0 = _
      omega
    · rw [h]
      show _ + 1 = _
      omega
theorem slice_bits {ds : List Nat} (hd : ∀ d ∈ ds, d < 256) {pos w : Nat} (h : pos + w ≤ 8 * ds.length) : valL (((ds.flatMap bits8).drop pos).take w) = numB ((ds.drop (pos / 8)).take ((pos + w + 7) / 8 - pos / 8)) / 2 ^ (8 * ((pos + w + 7) / 8) - (pos + w)) % 2 ^ w := by
  generalize hm : (pos + w + 7) / 8 - pos / 8 = m
  generalize hk : 8 * ((pos + w + 7) / 8) - (pos + w) = k
  have hsl : ((ds.drop (pos / 8)).take m).length = m := by rw [List.length_take, List.length_drop]; omega
  have hb := (numB_bits ((ds.drop (pos / 8)).take m) (fun b hb => hd b (List.mem_of_mem_drop (List.mem_of_mem_take hb))) m (by omega)).1
  rw [List.take_of_length_le (by omega)] at hb
  rw [← flat_take, ← flat_drop] at hb
  generalize numB ((ds.drop (pos / 8)).take m) = x at *
  have h8 : 8 * m = pos % 8 + (w + k) := by omega
  have hdrop : ((ds.flatMap bits8).drop pos).take w = ((((ds.flatMap bits8).drop (8 * (pos / 8))).take (8 * m)).drop (pos % 8)).take w := by
    rw [List.drop_take, List.take_take, List.drop_drop, show 8 * (pos / 8) + pos % 8 = pos by omega, Nat.min_eq_left (by omega)]
  rw [hdrop, ← hb, h8, bitsN_add, bitsN_add, List.drop_left' (bitsN_len _ _), List.take_left' (bitsN_len _ _), valL_bitsN]
def rF (d : Addr) (pos : Nat) : List (Str × V) := [("_data", .ref d), ("_position", .int (pos : Int))]
def RdAt (C : Addr) (H : Hp) (a d : Addr) (pos : Nat) : Prop := ∃ dx, H a = some (.ins C dx (rF d pos))
def FrA (a : Addr) (H H' : Hp) : Prop := ∀ b o, b ≠ a → H b = some o → H' b = some o
theorem FrA.ex {a : Addr} {H H1 : Hp} (h : Ex H H1) : FrA a H H1 := fun b o _ e => h b o e
theorem FrA.trans {a : Addr} {H H1 H2 : Hp} (h : FrA a H H1) (g : FrA a H1 H2) : FrA a H H2 := fun b o n e => g b o n (h b o n e)
theorem FrA.upd {a : Addr} {H H1 : Hp} {o : HO} (h : FrA a H H1) : FrA a H (upd H1 a o) := fun b p n e => by rw [upd_ne n]; exact h b p n e
theorem RdAt.ex {C a d : Addr} {H H1 : Hp} {pos : Nat} (e : Ex H H1) (h : RdAt C H a d pos) : RdAt C H1 a d pos := by
  obtain ⟨dx, h⟩ := h
  exact ⟨dx, e _ _ h⟩
theorem RdAt.ne {C a d : Addr} {H : Hp} {pos : Nat} {p : Addr} {xs : List V} (h : RdAt C H a d pos) (hp : H p = some (.lst xs)) : p ≠ a := by
  obtain ⟨dx, h⟩ := h
  intro e
  rw [e, h] at hp
  cases hp
def sp_rinit (C : Addr) : Sp := fun vs H Q _ => ∃ (a dx d : Addr) (at_ : Nat), vs = [.ref a, .ref d, .int (at_ : Int)] ∧ H a = some (.ins C dx []) ∧ at_ ≤ 1000000 ∧ ∀ H', FrA a H H' → RdAt C H' a d (8 * at_) → Q .non H'
theorem ok_BitReader_init (T : TX K mg) : FnOk P w K mg base CX0 1 T.a_BitReader_init T.d_BitReader_init ["self", "data", "at"] (sp_rinit T.C_BitReader) := by
  refine T.F_BitReader_init.ok sc_BitReader_init (fun vs H Q E h => by obtain ⟨a, dx, d, t, rfl, _⟩ := h; rfl) (fun cdv A outer s H vs Q E hr h => ?_)
  obtain ⟨a, dx, d, t, rfl, ha, ht, k⟩ := h
  refine ⟨_, PSs.nox (pss_cons (ps_fld (pv 0) (pv 1) rfl)
      (pss_one (ps_fld (pv 0) (pe_op op_mul (pv 2) pe_int) rfl))), ?_⟩
  refine q_fld T.cl_BitReader T.n_BitReader_data (v := .ref d) (ev_var rfl) (ev_var rfl) ha (by decide) fun H1 e1 => ?_
  refine s_fld T.cl_BitReader T.n_BitReader_position (v := .int ((8 * t : Nat) : Int)) (Ev.is (ev_I (ev_var rfl) ev_c (.inr (by decide))) (congrArg V.int (by omega))) (ev_var rfl) upd_same (Nat.le_of_ble_eq_true rfl) fun H2 e2 => ?_
  exact k _ ((FrA.ex e1).upd.trans (FrA.ex e2)).upd ⟨dx, upd_same⟩

def sp_place (C : Addr) (f : Nat → Int) : Sp := fun vs H Q _ => ∃ (a d : Addr) (pos : Nat), vs = [.ref a] ∧ RdAt C H a d pos ∧ RetV (.int (f pos)) H Q
theorem ok_BitReader_byte_place (T : TX K mg) : FnOk P w K mg base CX0 1 T.a_BitReader_byte_place T.d_BitReader_byte_place ["self"] (sp_place T.C_BitReader fun pos => (pos / 8 : Nat)) := by
  refine T.F_BitReader_byte_place.ok sc_BitReader_byte_place (fun vs H Q E h => by obtain ⟨a, d, pos, rfl, _⟩ := h; rfl) (fun cdv A outer s H vs Q E hr h => ?_)
  obtain ⟨a, d, pos, rfl, ⟨dx, ha⟩, k⟩ := h
  refine ⟨_, (pss_one (ps_ret (pe_op op_fdiv (pe_fld (pv 0) rfl) pe_int))), ?_⟩
  exact s_ret (Ev.is (ev_I (ev_fld T.cl_BitReader T.n_BitReader_position (v := .int (pos : Int)) (ev_var rfl) ha rfl) ev_c ⟨by decide, by decide⟩) (congrArg V.int (by show _ = ((pos / 8 : Nat) : Int); omega))) fun H1 e1 => k H1 e1
theorem ok_BitReader_bit_place (T : TX K mg) : FnOk P w K mg base CX0 1 T.a_BitReader_bit_place T.d_BitReader_bit_place ["self"] (sp_place T.C_BitReader fun pos => (pos : Nat)) := by
  refine T.F_BitReader_bit_place.ok sc_BitReader_bit_place (fun vs H Q E h => by obtain ⟨a, d, pos, rfl, _⟩ := h; rfl) (fun cdv A outer s H vs Q E hr h => ?_)
  obtain ⟨a, d, pos, rfl, ⟨dx, ha⟩, k⟩ := h
  refine ⟨_, (pss_one (ps_ret (pe_fld (pv 0) rfl))), ?_⟩
  exact s_ret (ev_fld T.cl_BitReader T.n_BitReader_position (v := .int (pos : Int)) (ev_var rfl) ha rfl) fun H1 e1 => k H1 e1
theorem ev_place {σ : L2.St} {H : Hp} {to : TE} {E : XK} {C a d : Addr} {pos : Nat} {m : Str} {f : Nat → Int} (h : Ev to σ H (.ref a)) (hR : RdAt C H a d pos) (hm : (rF d pos).lookup m = none) : Ev (tMeth C m (sp_place C f) [] E to tNil) σ H (.int (f pos)) := by
  obtain ⟨dx, ha⟩ := id hR
  exact ev_mth h ha hm ea_nil fun H1 e Q q _ => ⟨a, d, pos, rfl, hR.ex e, q⟩

theorem okh_BitReader_bit_place (T : TX K mg) : L2H.FnH P w K mg base CX0 1 T.a_BitReader_bit_place T.d_BitReader_bit_place ["self"] (sp_place T.C_BitReader fun pos => (pos : Nat)) := by
  refine T.F_BitReader_bit_place.okH sc_BitReader_bit_place (fun vs H Q E h => by obtain ⟨a, d, pos, rfl, _⟩ := h; rfl) (fun cdv A outer s H vs Q E p hr h => ?_)
  obtain ⟨a, d, pos, rfl, ⟨dx, ha⟩, k⟩ := h
  refine ⟨_, (pss_one (ps_ret (pe_fld (pv 0) rfl))), ?_⟩
  exact s_ret (ev_fld T.cl_BitReader T.n_BitReader_position (v := .int (pos : Int)) (ev_var rfl) ha rfl) fun H1 e1 => k H1 e1
theorem ev_placeH {σ : L2.St} {H : Hp} {to : TE} {E : L2.St → XK} {C a d : Addr} {pos : Nat} {m : Str} {f : Nat → Int} (h : Ev to σ H (.ref a)) (hR : RdAt C H a d pos) (hm : (rF d pos).lookup m = none) : Ev (tMethX C m (sp_place C f) [] E to tNil) σ H (.int (f pos)) := fun H1 e Q q => by
  obtain ⟨dx, ha⟩ := id hR
  exact mthX (h.mono e) (e _ _ ha) hm ea_nil fun H2 e2 => ⟨a, d, pos, rfl, hR.ex (e.trans e2), fun H3 e3 => q H3 (e2.trans e3)⟩

def RdErr (E : XK) (C : Addr) (nm : Str) (n : Nat) (H : Hp) : Prop := ∀ H' dd, Ex H H' → ErrD H' dd nm (n : Int) → E (.ref C) (some dd) H'
def sp_readX (C CT : Addr) : Sp := fun vs H Q E => ∃ (a d : Addr) (ds : List Nat) (pos wd : Nat), vs = [.ref a, .int (wd : Int)] ∧ RdAt C H a d pos ∧ H d = some (.lst ((cs ds).map V.int)) ∧ (∀ b ∈ ds, b < 256) ∧ wd ≤ 64 ∧ ds.length ≤ 100000 ∧
  (pos + wd ≤ 8 * ds.length → ∀ H', FrA a H H' → RdAt C H' a d (pos + wd) → Q (.int ((valL (((ds.flatMap bits8).drop pos).take wd) : Nat) : Int)) H') ∧ (8 * ds.length < pos + wd → RdErr E CT "Truncated" ds.length H)
theorem q_forSr {σ : L2.St} {H : Hp} {D : Ends} {tu tz : TS} {tl : TE} {g : TG} {xs : List V} (h : EvS K tl σ H xs) (k : ∀ p H1, Ex H H1 → SqL K H1 p xs → tSeq (tFor (iList K (tC (.ref p))) g tu) tz D σ H1) : tSeq (tFor (iList K tl) g tu) tz D σ H := h H (Ex.refl H) _ fun p H1 e hp => k p H1 e hp
theorem ok_BitReader_read (T : TX K mg) : FnOk P w K mg base (L2N.CX P w) 3 T.a_BitReader_read T.d_BitReader_read ["self", "width"] (sp_readX T.C_BitReader T.C_Truncated) := by
  refine T.F_BitReader_read.okN sc_BitReader_read (fun vs H Q E h => by obtain ⟨a, d, ds, pos, wd, rfl, _⟩ := h; rfl) (fun cdv A outer s H vs Q E hr h => ?_)
  obtain ⟨a, d, ds, pos, wd, rfl, ⟨dx, ha⟩, hd, hds, hw, hlen, k, kE⟩ := h
  refine ⟨_, (pss_cons (ps_set (i := 2) sc_BitReader_read.nd rfl (Or.inl rfl) (pe_fld (pv 0) rfl))
      (pss_cons (ps_set (i := 3) sc_BitReader_read.nd rfl (Or.inl rfl) (pe_fld (pv 0) rfl))
      (pss_cons (ps_set (i := 4) sc_BitReader_read.nd rfl (Or.inl rfl) (pe_op op_add (pv 3) (pv 1)))
      (pss_cons (ps_if (pt_cmpR op_gt (pv 4) (pe_op op_mul (pe_callB (r := rLenS K) call_len_seq (by rfl) T.m_len PySem.boot_len (pa_cons (pv 2) pa_nil)) pe_int) (nomark _)) (pss_one (L2N.ps_raise rfl (L2N.takes_of rfl rfl rfl rfl) (pmkN_oex T.x_Truncated.ox T.x_Truncated.iC T.ti_MonochordError_init (ok_MonochordError_init T) (hr.mono (by decide)) T.b_MonochordError_init .nil pass0 (by rfl) T.g_Truncated (pa_cons (pe_callB (r := rLenS K) call_len_seq (by rfl) T.m_len PySem.boot_len (pa_cons (pv 2) pa_nil)) pa_nil)))) pss_nil)
      (pss_cons (ps_set (i := 5) sc_BitReader_read.nd rfl (Or.inl rfl) (pe_op op_fdiv (pe_op op_add (pv 4) pe_int) pe_int))
      (pss_cons (ps_set (i := 6) sc_BitReader_read.nd rfl (Or.inl rfl) pe_int)
      (pss_cons (ps_for (passes_of rfl) rfl (pi_list (pe_slice (r := rSlL K) sl_list (pv 2) (po_some (pe_op op_fdiv (pv 3) pe_int)) (po_some (pv 5)))) (pg_name (i := 7) sc_BitReader_read.nd rfl (Or.inl rfl)) (pss_one (ps_set (i := 6) sc_BitReader_read.nd rfl (Or.inl rfl) (pe_op op_or (pe_op op_shl (pv 6) pe_int) (pv 7)))))
      (pss_cons (ps_fld (pv 0) (pv 4) rfl)
      (pss_one (ps_ret (pe_op op_and (pe_op op_shr (pv 6) (pe_op op_sub (pe_op op_mul (pv 5) pe_int) (pv 4))) (pe_op op_sub (pe_op op_shl pe_int (pv 1)) pe_int)))))))))))), ?_⟩
  refine q_asg (ev_fld T.cl_BitReader T.n_BitReader_data (v := .ref d) (ev_var rfl) ha rfl) fun H1 e1 => ?_
  refine q_asg (ev_fld T.cl_BitReader T.n_BitReader_position (v := .int (pos : Int)) (ev_var rfl) (e1 _ _ ha) rfl) fun H2 e2 => ?_
  refine q_asg (v := .int ((pos + wd : Nat) : Int)) (Ev.is (ev_I0 (ev_var rfl) (ev_var rfl)) (congrArg V.int (by omega))) fun H3 e3 => ?_
  have ex3 := (e1.trans e2).trans e3
  have hlv : ∀ {H1 : Hp}, Ex H H1 → Ev (tCB (rLenS K) (tCons (tVar 2) tNil)) [some (.ref a), some (.int (wd : Int)), some (.ref d), some (.int (pos : Int)), some (.int ((pos + wd : Nat) : Int)), none, none, none] H1 (.int (ds.length : Int)) := fun e => Ev.is (ev_lenS (Ev.s (ev_var rfl) (sq_of (e _ _ hd)))) (by rw [List.length_map, cs_len])
  refine q_when (b := decide (8 * ds.length < pos + wd)) (et_test (Ev.is (ev_I0 (ev_var rfl) (ev_I (hlv ex3) ev_c (.inr (by decide)))) (congrArg V.bl (decide_eq_decide.mpr (by show (_ : Int) < _ ↔ _; omega))))) (fun hb H4 e4 => ?_) (fun hb H4 e4 => ?_)
  · exact mk_err T.x_Truncated (ea_cons (hlv (ex3.trans e4)) ea_nil) fun H5 dd hdd e5 he => kE (of_decide_eq_true hb) H5 dd ((ex3.trans e4).trans e5) he
  have hp : pos + wd ≤ 8 * ds.length := by have := of_decide_eq_false hb; omega
  have k := k hp
  refine q_asg (v := .int (((pos + wd + 7) / 8 : Nat) : Int)) (Ev.is (ev_I (ev_I0 (ev_var rfl) ev_c) ev_c ⟨by decide, by decide⟩) (congrArg V.int (by omega))) fun H5 e5 => ?_
  walk_at "asg"
  intro H6 e6
  have ex6 := ((ex3.trans e4).trans e5).trans e6
  have hsb := slice_bits hds hp
  generalize hbs : (ds.drop (pos / 8)).take ((pos + wd + 7) / 8 - pos / 8) = bs at *
  have hbl : bs.length ≤ 9 := by rw [← hbs, List.length_take]; omega
  have hb256 : ∀ b ∈ bs, b < 256 := fun b hb => hds b (by rw [← hbs] at hb; exact List.mem_of_mem_drop (List.mem_of_mem_take hb))
  refine q_forSr (xs := (cs bs).map V.int) (EvR.s (EvL.r (EvL.is (el_mid (ns := cs ds) (i := pos / 8) (j := (pos + wd + 7) / 8) (Ev.s (ev_var rfl) (sq_of (ex6 _ _ hd))) (Ev.is (ev_I (ev_var rfl) ev_c ⟨by decide, by decide⟩) (congrArg V.int (by omega))) (ev_var rfl)) (by rw [cs_drop, cs_take, hbs])))) fun p H7 e7 hq => ?_
  refine q_forLn (a := p) ev_c hq (fun i σ' H' => ∃ c, σ' = [some (.ref a), some (.int (wd : Int)), some (.ref d), some (.int (pos : Int)), some (.int ((pos + wd : Nat) : Int)), some (.int (((pos + wd + 7) / 8 : Nat) : Int)), some (.int ((numB (bs.take i) : Nat) : Int)), c] ∧ Ex H7 H')
    (fun H8 e8 => ⟨none, rfl, e8⟩) (fun i σ' H' _ h => by obtain ⟨_, _, e⟩ := h; exact ex_l e hq) ?_ ?_
  · rintro i x σ' H8 hx ⟨c, rfl, e8⟩
    obtain ⟨n, hn, hi, rfl⟩ := int_at hx
    rw [cs_len] at hi
    have hbi : bs[i]? = some bs[i] := List.getElem?_eq_getElem hi
    have hn2 := cs_at hbi
    rw [hn] at hn2
    have hn2 := Option.some.inj hn2
    have hlt : bs[i] < 256 := hb256 _ (List.getElem_mem hi)
    have hx64 := (numB_bits bs hb256 i (by omega)).2
    rw [show bs.take (i + 1) = bs.take i ++ [bs[i]] from by rw [List.take_add_one, hbi]; rfl, numB_snoc]
    generalize bs[i] = b at *
    subst hn2
    have hx64 : numB (bs.take i) < 2 ^ 64 := Nat.lt_of_lt_of_le hx64 (Nat.pow_le_pow_right (by decide) (by omega))
    generalize numB (bs.take i) = x at *
    refine s_asg (Ev.is (ev_I0 (ev_I (ev_var rfl) ev_c (show CPow (x : Int) 8 from ⟨by decide, by decide, by rw [Int.natAbs_natCast]; exact hx64⟩)) (ev_var rfl)) (congrArg V.int (a₂ := ((x * 2 ^ 8 + b : Nat) : Int)) ?_)) fun H9 e9 => ⟨_, rfl, e8.trans e9⟩
    show Builtin.bitOr ((x : Int) * 2 ^ 8) (b : Int) = _
    rw [_root_.Bits.bitOr_join' (by omega) (by show (b : Int) < 256; omega) (by omega)]
    show (b : Int) + (x : Int) * 256 = ((x * 256 + b : Nat) : Int)
    omega
  · rintro σ' H8 ⟨c, rfl, e8⟩
    rw [List.length_map, cs_len, List.take_length]
    have ex8 := (ex6.trans e7).trans e8
    refine q_fld T.cl_BitReader T.n_BitReader_position (v := .int ((pos + wd : Nat) : Int)) (ev_var rfl) (ev_var rfl) (ex8 _ _ ha) (Nat.le_of_ble_eq_true rfl) fun H9 e9 => ?_
    refine s_ret (v := .int ((valL (((ds.flatMap bits8).drop pos).take wd) : Nat) : Int)) (Ev.is (ev_I0 (ev_I (j := ((8 * ((pos + wd + 7) / 8) - (pos + wd) : Nat) : Int)) (ev_var rfl) (Ev.is (ev_I0 (ev_I (ev_var rfl) ev_c (.inr (by decide))) (ev_var rfl)) (congrArg V.int (by omega))) (by show (0 : Int) ≤ _; omega)) (ev_I0 (ev_I ev_c (ev_var rfl) (show CPow 1 (wd : Int) from ⟨by omega, by omega, by decide⟩)) ev_c)) (congrArg V.int ?_)) fun H10 e10 => ?_
    · rw [Int.toNat_natCast, Int.toNat_natCast, Int.one_mul, bitAnd_maskZ, pow_cast, pow_cast, hsb, Int.natCast_emod, Int.natCast_ediv]
    · exact k H10 (((FrA.ex ex8).trans (FrA.ex e9)).upd.trans (FrA.ex e10)) (RdAt.ex e10 ⟨dx, upd_same⟩)

def sp_alig (C : Addr) : Sp := fun vs H Q _ => ∃ (a d : Addr) (pos : Nat), vs = [.ref a] ∧ RdAt C H a d pos ∧ RetV (.bl (decide (pos % 8 = 0))) H Q
/-- o.m() of a reader, nothing changed -/
theorem ok_BitReader_aligned (T : TX K mg) : FnOk P w K mg base CX0 1 T.a_BitReader_aligned T.d_BitReader_aligned ["self"] (sp_alig T.C_BitReader) := by
  refine T.F_BitReader_aligned.ok sc_BitReader_aligned (fun vs H Q E h => by obtain ⟨a, d, pos, rfl, _⟩ := h; rfl) (fun cdv A outer s H vs Q E hr h => ?_)
  obtain ⟨a, d, pos, rfl, ⟨dx, ha⟩, k⟩ := h
  refine ⟨_, (pss_one (ps_ret (pe_cmpR op_eq (pe_op op_mod (pe_fld (pv 0) rfl) pe_int) pe_int (nomark _)))), ?_⟩
  exact s_ret (v := .bl (decide (pos % 8 = 0))) (Ev.is (ev_eq (ev_I (ev_fld T.cl_BitReader T.n_BitReader_position (v := .int (pos : Int)) (ev_var rfl) ha rfl) ev_c (by decide)) ev_c rfl) (congrArg V.bl (decide_eq_decide.mpr ⟨fun h => by have := V.int.inj h; omega, fun h => congrArg V.int (by omega)⟩))) fun H1 e1 => k H1 e1
theorem ev_aligned {σ : L2.St} {H : Hp} {to : TE} {E : XK} {C a d : Addr} {pos : Nat} (h : Ev to σ H (.ref a)) (hR : RdAt C H a d pos) : Ev (tMeth C "aligned" (sp_alig C) [] E to tNil) σ H (.bl (decide (pos % 8 = 0))) := by
  obtain ⟨dx, ha⟩ := id hR
  exact ev_mth h ha rfl ea_nil fun H1 e Q q _ => ⟨a, d, pos, rfl, hR.ex e, q⟩

/-- the bits from a position to the end of its byte -/
def restN (ds : List Nat) (pos : Nat) : Nat := ds.getD (pos / 8) 0 % 2 ^ (8 - pos % 8)
def sp_rest (C : Addr) : Sp := fun vs H Q _ => ∃ (a d : Addr) (ds : List Nat) (pos : Nat), vs = [.ref a] ∧ RdAt C H a d pos ∧ H d = some (.lst ((cs ds).map V.int)) ∧ ds.length ≤ 100000 ∧ RetV (.int ((restN ds pos : Nat) : Int)) H Q
theorem mask_rest (x p : Nat) : Builtin.bitAnd (x : Int) ((255 : Int) / 2 ^ (((p % 8 : Nat) : Int)).toNat) = ((x % 2 ^ (8 - p % 8) : Nat) : Int) := by
  have h8 : p % 8 < 8 := Nat.mod_lt _ (by decide)
  rw [Int.toNat_natCast, pow_cast]
  have e : (255 : Int) / ((2 ^ (p % 8) : Nat) : Int) = 2 ^ (8 - p % 8) - 1 := by
    generalize p % 8 = m at h8
    match m, h8 with
    | 0, _ => rfl
    | 1, _ => rfl
    | 2, _ => rfl
    | 3, _ => rfl
    | 4, _ => rfl
    | 5, _ => rfl
    | 6, _ => rfl
    | 7, _ => rfl
  rw [e, bitAnd_maskZ, pow_cast, Int.natCast_emod]
theorem ok_BitReader_rest_of_byte (T : TX K mg) : FnOk P w K mg base CX0 2 T.a_BitReader_rest_of_byte T.d_BitReader_rest_of_byte ["self"] (sp_rest T.C_BitReader) := by
  refine T.F_BitReader_rest_of_byte.ok sc_BitReader_rest_of_byte (fun vs H Q E h => by obtain ⟨a, d, ds, pos, rfl, _⟩ := h; rfl) (fun cdv A outer s H vs Q E hr h => ?_)
  obtain ⟨a, d, ds, pos, rfl, hR, hd, hlen, k⟩ := h
  obtain ⟨dx, ha⟩ := id hR
  refine ⟨_, (pss_cons (ps_set (i := 1) sc_BitReader_rest_of_byte.nd rfl (Or.inl rfl) (pe_meth0 (pv 0) T.cl_BitReader T.me_BitReader_byte_place (ok_BitReader_byte_place T) (hr.mono (by decide)) T.b_BitReader_byte_place .nil pass0))
      (pss_cons (ps_if (pt_cmpR op_ge (pv 1) (pe_callB (r := rLenS K) call_len_seq (by rfl) T.m_len PySem.boot_len (pa_cons (pe_fld (pv 0) rfl) pa_nil)) (nomark _)) (pss_one (ps_ret pe_int)) pss_nil)
      (pss_one (ps_ret (pe_op op_and (pe_ix (r := rIxL K) ix_list (pe_fld (pv 0) rfl) (pv 1) (fun _ _ => rfl)) (pe_op op_shr pe_int (pe_op op_mod (pe_fld (pv 0) rfl) pe_int))))))), ?_⟩
  refine q_asg (v := .int ((pos / 8 : Nat) : Int)) (ev_place (f := fun pos => (pos / 8 : Nat)) (ev_var rfl) hR rfl) fun H1 e1 => ?_
  have hD : ∀ {σ : L2.St} {H1 : Hp} {te : TE}, Ex H H1 → Ev te σ H1 (.ref a) → Ev (tFld K te "_data") σ H1 (.ref d) := fun e h => ev_fld T.cl_BitReader T.n_BitReader_data h (e _ _ ha) rfl
  refine q_when (b := decide (ds.length ≤ pos / 8)) (et_test (Ev.is (ev_I0 (ev_var rfl) (Ev.is (ev_lenS (Ev.s (hD e1 (ev_var rfl)) (sq_of (e1 _ _ hd)))) (by rw [List.length_map, cs_len]))) (congrArg V.bl (decide_eq_decide.mpr (by show (ds.length : Int) ≤ ((pos / 8 : Nat) : Int) ↔ _; omega))))) (fun hb H2 e2 => ?_) (fun hb H2 e2 => ?_)
  · have hb := of_decide_eq_true hb
    have hz : restN ds pos = 0 := by
      unfold restN
      rw [List.getD_eq_getElem?_getD, List.getElem?_eq_none (by omega)]
      exact Nat.zero_mod _
    rw [hz] at k
    exact s_ret (Ev.is ev_c rfl) fun H3 e3 => k H3 ((e1.trans e2).trans e3)
  · have hb := of_decide_eq_false hb
    have hat : ds[pos / 8]? = some (ds.getD (pos / 8) 0) := by rw [List.getD_eq_getElem?_getD, List.getElem?_eq_getElem (by omega)]; rfl
    refine s_ret (v := .int ((restN ds pos : Nat) : Int)) (Ev.is (ev_I0 (ev_at (Ev.s (hD (e1.trans e2) (ev_var rfl)) (sq_of ((e1.trans e2) _ _ hd))) (ev_var rfl) (at_of rfl (at_int (cs_at hat)))) (ev_I (j := ((pos % 8 : Nat) : Int)) ev_c (Ev.is (ev_I (ev_fld T.cl_BitReader T.n_BitReader_position (v := .int (pos : Int)) (ev_var rfl) ((e1.trans e2) _ _ ha) rfl) ev_c (by decide)) (congrArg V.int (by omega))) (by show (0 : Int) ≤ _; omega))) (congrArg V.int (mask_rest _ _))) fun H3 e3 => k H3 ((e1.trans e2).trans e3)
theorem ev_rest {σ : L2.St} {H : Hp} {to : TE} {E : XK} {C a d : Addr} {ds : List Nat} {pos : Nat} (h : Ev to σ H (.ref a)) (hR : RdAt C H a d pos) (hd : H d = some (.lst ((cs ds).map V.int))) (hl : ds.length ≤ 100000) : Ev (tMeth C "_rest_of_byte" (sp_rest C) [] E to tNil) σ H (.int ((restN ds pos : Nat) : Int)) := by
  obtain ⟨dx, ha⟩ := id hR
  exact ev_mth h ha rfl ea_nil fun H1 e Q q _ => ⟨a, d, ds, pos, rfl, hR.ex e, e _ _ hd, hl, q⟩

def upTo8 (pos : Nat) : Nat := 8 * ((pos + 7) / 8)
def sp_skip (C CI : Addr) : Sp := fun vs H Q E => ∃ (a d : Addr) (ds : List Nat) (pos : Nat), vs = [.ref a] ∧ RdAt C H a d pos ∧ H d = some (.lst ((cs ds).map V.int)) ∧ ds.length ≤ 100000 ∧
  (pos % 8 = 0 ∨ restN ds pos = 0 → ∀ H', FrA a H H' → RdAt C H' a d (upTo8 pos) → Q .non H') ∧ (¬ (pos % 8 = 0 ∨ restN ds pos = 0) → RdErr E CI "InvalidForm" (pos / 8) H)
theorem ok_BitReader_skip_padding (T : TX K mg) : FnOk P w K mg base (L2N.CX P w) 3 T.a_BitReader_skip_padding T.d_BitReader_skip_padding ["self"] (sp_skip T.C_BitReader T.C_InvalidForm) := by
  refine T.F_BitReader_skip_padding.okN sc_BitReader_skip_padding (fun vs H Q E h => by obtain ⟨a, d, ds, pos, rfl, _⟩ := h; rfl) (fun cdv A outer s H vs Q E hr h => ?_)
  obtain ⟨a, d, ds, pos, rfl, hR, hd, hlen, k, kE⟩ := h
  obtain ⟨dx, ha⟩ := id hR
  refine ⟨_, (pss_cons (ps_if (pt_val (pe_meth0 (pv 0) T.cl_BitReader T.me_BitReader_aligned (ok_BitReader_aligned T) (hr.mono (by decide)) T.b_BitReader_aligned .nil pass0)) (pss_one ps_retN) pss_nil)
      (pss_cons (ps_set (i := 1) sc_BitReader_skip_padding.nd rfl (Or.inl rfl) (pe_meth0 (pv 0) T.cl_BitReader T.me_BitReader_byte_place (ok_BitReader_byte_place T) (hr.mono (by decide)) T.b_BitReader_byte_place .nil pass0))
      (pss_cons (ps_if (pt_cmpR op_ne (pe_meth0 (pv 0) T.cl_BitReader T.me_BitReader_rest_of_byte (ok_BitReader_rest_of_byte T) (hr.mono (by decide)) T.b_BitReader_rest_of_byte .nil pass0) pe_int (nomark _)) (pss_one (L2N.ps_raise rfl (L2N.takes_of rfl rfl rfl rfl) (pmkN_oex T.x_InvalidForm.ox T.x_InvalidForm.iC T.ti_MonochordError_init (ok_MonochordError_init T) (hr.mono (by decide)) T.b_MonochordError_init .nil pass0 (by rfl) T.g_InvalidForm (pa_cons (pv 1) pa_nil)))) pss_nil)
      (pss_one (ps_fld (pv 0) (pe_op op_add (pe_op op_mul (pv 1) pe_int) pe_int) rfl))))), ?_⟩
  refine q_when (b := decide (pos % 8 = 0)) (et_test (ev_aligned (ev_var rfl) hR)) (fun hb H1 e1 => ?_) (fun hb H1 e1 => ?_)
  · have hb := of_decide_eq_true hb
    refine k (.inl hb) H1 (FrA.ex e1) ?_
    have := hR.ex e1
    unfold upTo8
    rwa [show 8 * ((pos + 7) / 8) = pos by omega]
  have hb := of_decide_eq_false hb
  refine q_asg (v := .int ((pos / 8 : Nat) : Int)) (ev_place (f := fun pos => (pos / 8 : Nat)) (ev_var rfl) (hR.ex e1) rfl) fun H2 e2 => ?_
  have ex2 := e1.trans e2
  refine q_when (b := decide (restN ds pos ≠ 0)) (et_test (Ev.is (ev_ne (ev_rest (ev_var rfl) (hR.ex ex2) (ex2 _ _ hd) hlen) ev_c rfl) (congrArg V.bl (by
    by_cases h : restN ds pos = 0
    · rw [h]; rfl
    · rw [decide_eq_true h, decide_eq_false (fun z => h (by have := V.int.inj z; omega))]; rfl)))) (fun hc H3 e3 => ?_) (fun hc H3 e3 => ?_)
  · have hc := of_decide_eq_true hc
    exact mk_err T.x_InvalidForm (ea_cons (ev_var rfl) ea_nil) fun H5 dd hdd e5 he => kE (fun z => z.elim hb hc) H5 dd ((ex2.trans e3).trans e5) he
  · have hc := of_decide_eq_false hc
    have hc : restN ds pos = 0 := by omega
    refine s_fld T.cl_BitReader T.n_BitReader_position (v := .int ((upTo8 pos : Nat) : Int)) (Ev.is (ev_I0 (ev_I (ev_var rfl) ev_c (.inr (by decide))) ev_c) (congrArg V.int (by unfold upTo8; omega))) (ev_var rfl) ((ex2.trans e3) _ _ ha) (Nat.le_of_ble_eq_true rfl) fun H4 e4 => ?_
    exact k (.inr hc) _ ((FrA.ex (ex2.trans e3)).trans (FrA.ex e4)).upd ⟨dx, upd_same⟩

/-! ### bits of bytes by their places -/
theorem flat_at : ∀ (ds : List Nat) (i : Nat), i < 8 * ds.length → (ds.flatMap bits8)[i]? = some ((ds.getD (i / 8) 0).testBit (7 - i % 8))
  | [], i, h => by rw [List.length_nil] at h; omega
  | d :: r, i, h => by
    rw [List.length_cons] at h
    rw [List.flatMap_cons]
    by_cases hi : i < 8
    · rw [List.getElem?_append_left (by show i < 8; exact hi), bits8_N, bitsN_at hi, show i / 8 = 0 by omega, show i % 8 = i by omega]
      rfl
    · rw [List.getElem?_append_right (by show 8 ≤ i; omega)]
      show (r.flatMap bits8)[i - 8]? = _
      rw [flat_at r (i - 8) (by omega), show i / 8 = (i - 8) / 8 + 1 by omega, show i % 8 = (i - 8) % 8 by omega]
      rfl
theorem valL_next {bs : List Bool} {at_ i : Nat} {b : Bool} (h : bs[at_ + i]? = some b) : valL ((bs.drop at_).take (i + 1)) = 2 * valL ((bs.drop at_).take i) + b.toNat := by
  rw [List.take_add_one, List.getElem?_drop, h]
  exact valL_snoc _ _
theorem valL_rest {ds : List Nat} (hd : ∀ d ∈ ds, d < 256) {pos : Nat} (h : pos / 8 < ds.length) : valL (((ds.flatMap bits8).drop pos).take (8 - pos % 8)) = ds.getD (pos / 8) 0 % 2 ^ (8 - pos % 8) := by
  have e1 : (pos + (8 - pos % 8) + 7) / 8 - pos / 8 = 1 := by omega
  have e2 : 8 * ((pos + (8 - pos % 8) + 7) / 8) - (pos + (8 - pos % 8)) = 0 := by omega
  rw [slice_bits hd (by omega), e1, e2, List.drop_eq_getElem_cons h, List.take_succ_cons, List.take_zero, Nat.pow_zero, Nat.div_one]
  have e3 : ds.getD (pos / 8) 0 = ds[pos / 8] := by rw [List.getD_eq_getElem?_getD, List.getElem?_eq_getElem h]; rfl
  rw [e3]
  show (0 * 2 ^ 8 + ds[pos / 8]) % _ = _
  rw [Nat.zero_mul, Nat.zero_add]

def sgN (wd v : Nat) : Int := if 2 * v < 2 ^ wd then (v : Int) else (v : Int) - (2 ^ wd : Nat)
def sp_readS (C CT : Addr) : Sp := fun vs H Q E => ∃ (a d : Addr) (ds : List Nat) (pos wd : Nat), vs = [.ref a, .int (wd : Int)] ∧ RdAt C H a d pos ∧ H d = some (.lst ((cs ds).map V.int)) ∧ (∀ b ∈ ds, b < 256) ∧ wd ≤ 64 ∧ ds.length ≤ 100000 ∧
  (pos + wd ≤ 8 * ds.length → ∀ H', FrA a H H' → RdAt C H' a d (pos + wd) → Q (.int (sgN wd (valL (((ds.flatMap bits8).drop pos).take wd)))) H') ∧ (8 * ds.length < pos + wd → RdErr E CT "Truncated" ds.length H)
theorem ok_BitReader_read_signed (T : TX K mg) : FnOk P w K mg base (L2N.CX P w) 4 T.a_BitReader_read_signed T.d_BitReader_read_signed ["self", "width"] (sp_readS T.C_BitReader T.C_Truncated) := by
  refine T.F_BitReader_read_signed.okN sc_BitReader_read_signed (fun vs H Q E h => by obtain ⟨a, d, ds, pos, wd, rfl, _⟩ := h; rfl) (fun cdv A outer s H vs Q E hr h => ?_)
  obtain ⟨a, d, ds, pos, wd, rfl, hR, hd, hds, hw, hlen, k, kE⟩ := h
  obtain ⟨dx, ha⟩ := id hR
  refine ⟨_, (pss_cons (ps_set (i := 2) sc_BitReader_read_signed.nd rfl (Or.inl rfl) (pe_methX (pv 0) T.cl_BitReader T.me_BitReader_read (ok_BitReader_read T) (hr.mono (by decide)) T.b_BitReader_read .nil (fun σ => L2N.passAt (L2N.takes_of rfl rfl rfl rfl) σ) (pa_cons (pv 1) pa_nil)))
      (pss_cons (ps_if (pt_cmpR op_lt (pe_op op_mul (pv 2) pe_int) (pe_op op_shl pe_int (pv 1)) (nomark _)) (pss_one (ps_ret (pv 2))) pss_nil)
      (pss_one (ps_ret (pe_op op_sub (pv 2) (pe_op op_shl pe_int (pv 1))))))), ?_⟩
  refine q_asgMX (sp := sp_readX T.C_BitReader T.C_Truncated) (m := "read") (dvs := []) (vs := [.int (wd : Int)]) (ev_var rfl) ha rfl (ea_cons (ev_var rfl) ea_nil) fun H1 e1 => ⟨a, d, ds, pos, wd, rfl, hR.ex e1, e1 _ _ hd, hds, hw, hlen, fun hp H2 hF hR2 => ?_, fun hp H2 dd e2 he => kE hp H2 dd (e1.trans e2) he⟩
  have k := k hp
  generalize valL (((ds.flatMap bits8).drop pos).take wd) = v at *
  have hsh : ∀ {σ : L2.St} {H1 : Hp} {te : TE}, Ev te σ H1 (.int (wd : Int)) → Ev (tOp (rI CPow fun i j => .int (i * 2 ^ j.toNat)) (tC (.int 1)) te) σ H1 (.int ((2 ^ wd : Nat) : Int)) := fun h => Ev.is (ev_I ev_c h (show CPow 1 (wd : Int) from ⟨by omega, by omega, by decide⟩)) (congrArg V.int (by rw [Int.toNat_natCast, Int.one_mul, pow_cast]))
  refine q_when (b := decide (2 * v < 2 ^ wd)) (et_test (Ev.is (ev_I0 (ev_I (ev_var rfl) ev_c (.inr (by decide))) (hsh (ev_var rfl))) (congrArg V.bl (decide_eq_decide.mpr (by show (v : Int) * 2 < ((2 ^ wd : Nat) : Int) ↔ _; generalize 2 ^ wd = q; omega))))) (fun hb H3 e3 => ?_) (fun hb H3 e3 => ?_)
  · have hb := of_decide_eq_true hb
    unfold sgN at k
    rw [if_pos hb] at k
    exact s_ret (ev_var rfl) fun H4 e4 => k H4 (((FrA.ex e1).trans hF).trans (FrA.ex (e3.trans e4))) (hR2.ex (e3.trans e4))
  · have hb := of_decide_eq_false hb
    unfold sgN at k
    rw [if_neg hb] at k
    exact s_ret (ev_I0 (ev_var rfl) (hsh (ev_var rfl))) fun H4 e4 => k H4 (((FrA.ex e1).trans hF).trans (FrA.ex (e3.trans e4))) (hR2.ex (e3.trans e4))

def zrun (B : List Bool) (pos z : Nat) : Prop := (∀ i, i < z → B[pos + i]? = some false) ∧ B[pos + z]? = some true
def ahd (ds : List Nat) (pos pl : Nat) : Nat := if pl = pos / 8 then restN ds pos else ds.getD pl 0
theorem ahd_bit {ds : List Nat} {pos pl i : Nat} (hp : pl < ds.length) (h1 : 8 * pl ≤ pos + i) (h2 : pos + i < 8 * pl + 8) : (ds.flatMap bits8)[pos + i]? = some ((ahd ds pos pl).testBit (7 - (pos + i) % 8)) := by
  rw [flat_at ds (pos + i) (by omega), show (pos + i) / 8 = pl by omega]
  unfold ahd
  split
  · rename_i h
    unfold restN
    rw [Nat.testBit_mod_two_pow, decide_eq_true (by omega), Bool.true_and, h]
  · rfl
theorem ahd_lt {ds : List Nat} (hds : ∀ b ∈ ds, b < 256) (pos pl : Nat) : ahd ds pos pl < 2 ^ (if pl = pos / 8 then 8 - pos % 8 else 8) := by
  unfold ahd
  split
  · exact Nat.mod_lt _ (Nat.two_pow_pos _)
  · by_cases h : pl < ds.length
    · rw [List.getD_eq_getElem?_getD, List.getElem?_eq_getElem h]
      exact hds _ (List.getElem_mem h)
    · rw [List.getD_eq_getElem?_getD, List.getElem?_eq_none (by omega)]
      exact (by decide : 0 < 256)
def sp_readU (C CT : Addr) : Sp := fun vs H Q E => ∃ (a d : Addr) (ds : List Nat) (pos : Nat), vs = [.ref a] ∧ RdAt C H a d pos ∧ H d = some (.lst ((cs ds).map V.int)) ∧ (∀ b ∈ ds, b < 256) ∧ ds.length ≤ 100000 ∧
  (∀ z, zrun (ds.flatMap bits8) pos z → ∀ H', FrA a H H' → RdAt C H' a d (pos + z + 1) → Q (.int (z : Int)) H') ∧ ((∀ i : Nat, (ds.flatMap bits8)[pos + i]? ≠ some true) → RdErr E CT "Truncated" ds.length H)
theorem ev_bits {σ : L2.St} {H : Hp} {to : TE} {i : Int} (h : Ev to σ H (.int i)) : Ev (tBits to) σ H (.int ((Builtin.Int.intBits i : Nat) : Int)) := fun H1 e Q q => h H1 e _ fun H2 e2 => ⟨i, rfl, q H2 e2⟩
theorem ok_BitReader_read_unary (T : TX K mg) : FnOk P w K mg base (L2N.CX P w) 3 T.a_BitReader_read_unary T.d_BitReader_read_unary ["self"] (sp_readU T.C_BitReader T.C_Truncated) := by
  refine T.F_BitReader_read_unary.okN sc_BitReader_read_unary (fun vs H Q E h => by obtain ⟨a, d, ds, pos, rfl, _⟩ := h; rfl) (fun cdv A outer s H vs Q E hr h => ?_)
  obtain ⟨a, d, ds, pos, rfl, hR, hd, hds, hlen, k, kE⟩ := h
  obtain ⟨dx, ha⟩ := id hR
  refine ⟨_, (pss_cons (ps_set (i := 1) sc_BitReader_read_unary.nd rfl (Or.inl rfl) (pe_fld (pv 0) rfl))
      (pss_cons (ps_set (i := 2) sc_BitReader_read_unary.nd rfl (Or.inl rfl) (pe_op op_fdiv (pe_fld (pv 0) rfl) pe_int))
      (pss_cons (ps_set (i := 3) sc_BitReader_read_unary.nd rfl (Or.inl rfl) (pe_meth0 (pv 0) T.cl_BitReader T.me_BitReader_rest_of_byte (ok_BitReader_rest_of_byte T) (hr.mono (by decide)) T.b_BitReader_rest_of_byte .nil pass0))
      (pss_cons (ps_while (passes_of rfl) (pt_cmpR op_eq (pv 3) pe_int (nomark _)) (pss_cons (ps_aug (i := 2) sc_BitReader_read_unary.nd rfl (Or.inl rfl) pe_int ip_add)
        (pss_cons (ps_if (pt_cmpR op_ge (pv 2) (pe_callB (r := rLenS K) call_len_seq (by rfl) T.m_len PySem.boot_len (pa_cons (pv 1) pa_nil)) (nomark _)) (pss_one (L2N.ps_raise rfl (L2N.takes_of rfl rfl rfl rfl) (pmkN_oex T.x_Truncated.ox T.x_Truncated.iC T.ti_MonochordError_init (ok_MonochordError_init T) (hr.mono (by decide)) T.b_MonochordError_init .nil pass0 (by rfl) T.g_Truncated (pa_cons (pe_callB (r := rLenS K) call_len_seq (by rfl) T.m_len PySem.boot_len (pa_cons (pv 1) pa_nil)) pa_nil)))) pss_nil)
        (pss_one (ps_set (i := 3) sc_BitReader_read_unary.nd rfl (Or.inl rfl) (pe_ix (r := rIxL K) ix_list (pv 1) (pv 2) (fun _ _ => rfl)))))))
      (pss_cons (ps_set (i := 4) sc_BitReader_read_unary.nd rfl (Or.inl rfl) (pe_op op_sub (pe_op op_add (pe_op op_mul (pv 2) pe_int) pe_int) (pe_bits (pv 3))))
      (pss_cons (ps_set (i := 5) sc_BitReader_read_unary.nd rfl (Or.inl rfl) (pe_op op_sub (pv 4) (pe_fld (pv 0) rfl)))
      (pss_cons (ps_fld (pv 0) (pe_op op_add (pv 4) pe_int) rfl)
      (pss_one (ps_ret (pv 5)))))))))), ?_⟩
  refine q_asg (ev_fld T.cl_BitReader T.n_BitReader_data (v := .ref d) (ev_var rfl) ha rfl) fun H1 e1 => ?_
  refine q_asg (v := .int ((pos / 8 : Nat) : Int)) (Ev.is (ev_I (ev_fld T.cl_BitReader T.n_BitReader_position (v := .int (pos : Int)) (ev_var rfl) (e1 _ _ ha) rfl) ev_c ⟨by decide, by decide⟩) (congrArg V.int (by show _ = ((pos / 8 : Nat) : Int); omega))) fun H2 e2 => ?_
  have ex2 := e1.trans e2
  refine q_asg (v := .int ((ahd ds pos (pos / 8) : Nat) : Int)) (Ev.is (ev_rest (ev_var rfl) (hR.ex ex2) (ex2 _ _ hd) hlen) (congrArg V.int (by unfold ahd; rw [if_pos rfl]))) fun H3 e3 => ?_
  have hlv : ∀ {σ : L2.St} {H1 : Hp} {te : TE}, Ex H H1 → Ev te σ H1 (.ref d) → Ev (tCB (rLenS K) (tCons te tNil)) σ H1 (.int (ds.length : Int)) := fun e h => Ev.is (ev_lenS (Ev.s h (sq_of (e _ _ hd)))) (by rw [List.length_map, cs_len])
  refine q_while (fun m σ' H' => ∃ pl : Nat, m = ds.length - pl ∧ σ' = [some (.ref a), some (.ref d), some (.int (pl : Int)), some (.int ((ahd ds pos pl : Nat) : Int)), none, none] ∧ Ex H H' ∧ pos / 8 ≤ pl ∧ (pl = pos / 8 ∨ pl < ds.length) ∧ ∀ i, pos + i < 8 * pl → (ds.flatMap bits8)[pos + i]? = some false) (ds.length - pos / 8) ⟨pos / 8, rfl, rfl, ex2.trans e3, Nat.le_refl _, .inl rfl, fun i hi => by omega⟩ ?_
  rintro m _ H4 ⟨pl, rfl, rfl, ex, hpl, hor, hfal⟩
  refine ⟨decide (ahd ds pos pl = 0), et_test (Ev.is (ev_eq (ev_var rfl) ev_c rfl) (congrArg V.bl (decide_eq_decide.mpr ⟨fun h => by have := V.int.inj h; omega, fun h => by rw [h]; rfl⟩))), fun hb H5 e5 => ?_, fun hb H5 e5 => ?_⟩
  · have hb := of_decide_eq_true hb
    refine ⟨fun σ2 H2 => ∃ m', m' < ds.length - pl ∧ _, fun σ2 H2 h => h, ?_⟩
    refine q_aug (b := 1) rfl ev_c fun H6 e6 => ?_
    rw [show (pl : Int) + 1 = ((pl + 1 : Nat) : Int) by omega]
    have ex6 := (ex.trans e5).trans e6
    have hz : ∀ i, pos + i < 8 * (pl + 1) → pos + i < 8 * ds.length → (ds.flatMap bits8)[pos + i]? = some false := fun i hi hi2 => by
      by_cases h : pos + i < 8 * pl
      · exact hfal i h
      · rw [ahd_bit (pl := pl) (by omega) (by omega) (by omega), hb, Nat.zero_testBit]
    refine q_when (b := decide (ds.length ≤ pl + 1)) (et_test (Ev.is (ev_I0 (ev_var rfl) (hlv ex6 (ev_var rfl))) (congrArg V.bl (decide_eq_decide.mpr (by show (ds.length : Int) ≤ ((pl + 1 : Nat) : Int) ↔ _; omega))))) (fun hc H7 e7 => ?_) (fun hc H7 e7 => ?_)
    · have hc := of_decide_eq_true hc
      refine mk_err T.x_Truncated (ea_cons (hlv (ex6.trans e7) (ev_var rfl)) ea_nil) fun H8 dd hdd e8 he => kE (fun i => ?_) H8 dd ((ex6.trans e7).trans e8) he
      by_cases h : pos + i < 8 * ds.length
      · rw [hz i (by omega) h]
        decide
      · rw [List.getElem?_eq_none (by rw [bits_flat_len]; omega)]
        decide
    · have hc := of_decide_eq_false hc
      have hat : ds[pl + 1]? = some (ds.getD (pl + 1) 0) := by rw [List.getD_eq_getElem?_getD, List.getElem?_eq_getElem (by omega)]; rfl
      refine s_asg (v := .int ((ahd ds pos (pl + 1) : Nat) : Int)) (Ev.is (ev_at (Ev.s (ev_var rfl) (sq_of ((ex6.trans e7) _ _ hd))) (ev_var rfl) (at_of rfl (at_int (cs_at hat)))) (congrArg V.int (by unfold ahd; rw [if_neg (by omega)]))) fun H8 e8 => ?_
      exact ⟨ds.length - (pl + 1), by omega, pl + 1, rfl, rfl, (ex6.trans e7).trans e8, by omega, .inr (by omega), fun i hi => hz i hi (by omega)⟩
  · have hb := of_decide_eq_false hb
    have hlt := ahd_lt hds pos pl
    have hpl2 : pl < ds.length := by
      rcases hor with h | h
      · by_cases h2 : pl < ds.length
        · exact h2
        · exfalso
          apply hb
          unfold ahd restN
          rw [if_pos h, List.getD_eq_getElem?_getD, List.getElem?_eq_none (by omega)]
          exact Nat.zero_mod _
      · exact h
    obtain ⟨x, hx⟩ : ∃ x, ahd ds pos pl = x := ⟨_, rfl⟩
    have hbit := fun i h1 h2 => ahd_bit (ds := ds) (pos := pos) (pl := pl) (i := i) hpl2 h1 h2
    rw [hx] at hb hlt hbit
    rw [hx]
    have hL : Builtin.Int.intBits (x : Int) = x.log2 + 1 := by
      unfold Builtin.Int.intBits
      rw [if_neg (by simpa using hb), Int.natAbs_natCast]
    obtain ⟨L, hLe⟩ : ∃ L, x.log2 + 1 = L := ⟨_, rfl⟩
    have hxL : x < 2 ^ L := by rw [← hLe]; exact Nat.lt_log2_self
    have hx1 : x.testBit (L - 1) = true := by rw [← hLe, Nat.add_sub_cancel]; exact Nat.testBit_log2 hb
    have hL8 : L ≤ if pl = pos / 8 then 8 - pos % 8 else 8 := by
      have h3 : 2 ^ (L - 1) ≤ x := by rw [← hLe, Nat.add_sub_cancel]; exact Nat.log2_self_le hb
      have h4 := (Nat.pow_lt_pow_iff_right (by decide : 1 < 2)).mp (Nat.lt_of_le_of_lt h3 hlt)
      omega
    have hone : pos ≤ 8 * pl + 8 - L ∧ 1 ≤ L ∧ L ≤ 8 := by
      split at hL8 <;> omega
    have hz : zrun (ds.flatMap bits8) pos (8 * pl + 8 - L - pos) := by
      refine ⟨fun i hi => ?_, ?_⟩
      · by_cases h : pos + i < 8 * pl
        · exact hfal i h
        · rw [hbit i (by omega) (by omega)]
          have h5 : x < 2 ^ (7 - (pos + i) % 8) := Nat.lt_of_lt_of_le hxL (Nat.pow_le_pow_right (by decide) (by omega))
          rw [Nat.testBit_lt_two_pow h5]
      · rw [hbit _ (by omega) (by omega), show 7 - (pos + (8 * pl + 8 - L - pos)) % 8 = L - 1 by omega, hx1]
    have k := k _ hz
    have ex5 := ex.trans e5
    refine q_asg (v := .int ((8 * pl + 8 - L : Nat) : Int)) (Ev.is (ev_I0 (ev_I0 (ev_I (ev_var rfl) ev_c (.inr (by decide))) ev_c) (ev_bits (ev_var rfl))) (congrArg V.int (by rw [hL, hLe]; omega))) fun H6 e6 => ?_
    refine q_asg (v := .int ((8 * pl + 8 - L - pos : Nat) : Int)) (Ev.is (ev_I0 (ev_var rfl) (ev_fld T.cl_BitReader T.n_BitReader_position (v := .int (pos : Int)) (ev_var rfl) ((ex5.trans e6) _ _ ha) rfl)) (congrArg V.int (by omega))) fun H7 e7 => ?_
    have ex7 := (ex5.trans e6).trans e7
    refine q_fld T.cl_BitReader T.n_BitReader_position (v := .int ((pos + (8 * pl + 8 - L - pos) + 1 : Nat) : Int)) (Ev.is (ev_I0 (ev_var rfl) ev_c) (congrArg V.int (by omega))) (ev_var rfl) (ex7 _ _ ha) (Nat.le_of_ble_eq_true rfl) fun H8 e8 => ?_
    exact s_ret (ev_var rfl) fun H9 e9 => k H9 (((FrA.ex ex7).trans (FrA.ex e8)).upd.trans (FrA.ex e9)) (RdAt.ex e9 ⟨dx, upd_same⟩)

def bytesAt (ds : List Nat) (pos n : Nat) : List Nat := (List.range n).map fun i => valL (((ds.flatMap bits8).drop (pos + 8 * i)).take 8)
theorem bytesAt_len (ds : List Nat) (pos n : Nat) : (bytesAt ds pos n).length = n := by unfold bytesAt; rw [List.length_map, List.length_range]
theorem bytesAt_get {ds : List Nat} {pos n i : Nat} (h : i < n) : (bytesAt ds pos n)[i]? = some (valL (((ds.flatMap bits8).drop (pos + 8 * i)).take 8)) := by
  unfold bytesAt
  rw [List.getElem?_map, List.getElem?_range h]
  rfl
theorem valL_byte {ds : List Nat} (hd : ∀ d ∈ ds, d < 256) {i : Nat} (h : i < ds.length) : valL (((ds.flatMap bits8).drop (8 * i)).take 8) = ds[i] := by
  rw [flat_drop, show (8 : Nat) = 8 * 1 from rfl, flat_take, List.drop_eq_getElem_cons h, List.take_succ_cons, List.take_zero, List.flatMap_cons, List.flatMap_nil, List.append_nil]
  exact valL_8 _ (hd _ (List.getElem_mem h))
theorem bytesAt_al {ds : List Nat} (hd : ∀ d ∈ ds, d < 256) {p n : Nat} (h : p + n ≤ ds.length) : bytesAt ds (8 * p) n = (ds.drop p).take n := by
  refine List.ext_getElem? fun i => ?_
  by_cases hi : i < n
  · rw [bytesAt_get hi, List.getElem?_take, if_pos hi, List.getElem?_drop, List.getElem?_eq_getElem (by omega), ← Nat.mul_add, valL_byte hd (by omega)]
  · rw [List.getElem?_eq_none (by rw [bytesAt_len]; omega), List.getElem?_eq_none (by rw [List.length_take]; omega)]
def sp_readB (C CT : Addr) : Sp := fun vs H Q E => ∃ (a d : Addr) (ds : List Nat) (pos n : Nat), vs = [.ref a, .int (n : Int)] ∧ RdAt C H a d pos ∧ H d = some (.lst ((cs ds).map V.int)) ∧ (∀ b ∈ ds, b < 256) ∧ ds.length ≤ 40000 ∧ n ≤ 100000 ∧
  (pos + 8 * n ≤ 8 * ds.length → ∀ p H', H p = none → FrA a H H' → RdAt C H' a d (pos + 8 * n) → H' p = some (.lst ((cs (bytesAt ds pos n)).map V.int)) → Q (.ref p) H') ∧ (8 * ds.length < pos + 8 * n → RdErr E CT "Truncated" ds.length H)
theorem ok_BitReader_read_bytes (T : TX K mg) : FnOk P w K mg base (L2N.CX P w) 4 T.a_BitReader_read_bytes T.d_BitReader_read_bytes ["self", "count"] (sp_readB T.C_BitReader T.C_Truncated) := by
  refine T.F_BitReader_read_bytes.okN sc_BitReader_read_bytes (fun vs H Q E h => by obtain ⟨a, d, ds, pos, n, rfl, _⟩ := h; rfl) (fun cdv A outer s H vs Q E hr h => ?_)
  obtain ⟨a, d, ds, pos, n, rfl, hR, hd, hds, hlen, hn, k, kE⟩ := h
  obtain ⟨dx, ha⟩ := id hR
  refine ⟨_, (pss_cons (ps_set (i := 2) sc_BitReader_read_bytes.nd rfl (Or.inl rfl) (pe_fld (pv 0) rfl))
      (pss_cons (ps_if (pt_cmpR op_gt (pe_op op_add (pe_fld (pv 0) rfl) (pe_op op_mul (pv 1) pe_int)) (pe_op op_mul (pe_callB (r := rLenS K) call_len_seq (by rfl) T.m_len PySem.boot_len (pa_cons (pv 2) pa_nil)) pe_int) (nomark _)) (pss_one (L2N.ps_raise rfl (L2N.takes_of rfl rfl rfl rfl) (pmkN_oex T.x_Truncated.ox T.x_Truncated.iC T.ti_MonochordError_init (ok_MonochordError_init T) (hr.mono (by decide)) T.b_MonochordError_init .nil pass0 (by rfl) T.g_Truncated (pa_cons (pe_callB (r := rLenS K) call_len_seq (by rfl) T.m_len PySem.boot_len (pa_cons (pv 2) pa_nil)) pa_nil)))) pss_nil)
      (pss_cons (ps_if (pt_not (pt_val (pe_meth0 (pv 0) T.cl_BitReader T.me_BitReader_aligned (ok_BitReader_aligned T) (hr.mono (by decide)) T.b_BitReader_aligned .nil pass0))) (pss_one (ps_ret (pe_lc (own := [("_", 4)]) (g := gName 4) (tt := tYes) rfl sc_BitReader_read_bytes.nd (pi_range1 (by rfl) T.m_range (pa_cons (pv 1) pa_nil)) (blkOk_by (N := ["self", "count", "data", "place", "_"]) (sc := defScope s_BitReader_read_bytes) (by decide +kernel)) (fun _ _ _ _ _ => pg_name (i := 4) sc_BitReader_read_bytes.nd rfl (Or.inl rfl)) (fun _ _ _ _ _ => pts_nil) (fun _ _ _ _ _ => (pe_meth (pv 0) T.cl_BitReader T.me_BitReader_read (ok_BitReader_read T) (hr.mono (by decide)) T.b_BitReader_read .nil passN (pa_cons pe_int pa_nil)))))) pss_nil)
      (pss_cons (ps_set (i := 3) sc_BitReader_read_bytes.nd rfl (Or.inl rfl) (pe_meth0 (pv 0) T.cl_BitReader T.me_BitReader_byte_place (ok_BitReader_byte_place T) (hr.mono (by decide)) T.b_BitReader_byte_place .nil pass0))
      (pss_cons (ps_fldaug (pv 0) (pe_op op_mul (pv 1) pe_int) in_add)
      (pss_one (ps_ret (pe_slice (r := rSlL K) sl_list (pv 2) (po_some (pv 3)) (po_some (pe_op op_add (pv 3) (pv 1))))))))))), ?_⟩
  refine q_asg (ev_fld T.cl_BitReader T.n_BitReader_data (v := .ref d) (ev_var rfl) ha rfl) fun H1 e1 => ?_
  have hlv : ∀ {σ : L2.St} {H1 : Hp} {te : TE}, Ex H H1 → Ev te σ H1 (.ref d) → Ev (tCB (rLenS K) (tCons te tNil)) σ H1 (.int (ds.length : Int)) := fun e h => Ev.is (ev_lenS (Ev.s h (sq_of (e _ _ hd)))) (by rw [List.length_map, cs_len])
  refine q_when (b := decide (8 * ds.length < pos + 8 * n)) (et_test (Ev.is (ev_I0 (ev_I0 (ev_fld T.cl_BitReader T.n_BitReader_position (v := .int (pos : Int)) (ev_var rfl) (e1 _ _ ha) rfl) (ev_I (ev_var rfl) ev_c (.inr (by decide)))) (ev_I (hlv e1 (ev_var rfl)) ev_c (.inr (by decide)))) (congrArg V.bl (decide_eq_decide.mpr (by show (_ : Int) < _ ↔ _; omega))))) (fun hb H2 e2 => ?_) (fun hb H2 e2 => ?_)
  · have hb := of_decide_eq_true hb
    exact mk_err T.x_Truncated (ea_cons (hlv (e1.trans e2) (ev_var rfl)) ea_nil) fun H8 dd hdd e8 he => kE hb H8 dd ((e1.trans e2).trans e8) he
  have hb : pos + 8 * n ≤ 8 * ds.length := by have := of_decide_eq_false hb; omega
  have k := k hb
  have ex2 := e1.trans e2
  refine q_when (b := !decide (pos % 8 = 0)) (et_not (et_B (ev_aligned (ev_var rfl) (hR.ex ex2)))) (fun hc H3 e3 => ?_) (fun hc H3 e3 => ?_)
  · have ex3 := ex2.trans e3
    refine tlc_rngM (n := (n : Int)) (ea_cons (ev_var rfl) ea_nil) (by omega) fun H4 e4 D hD => ⟨fun i H' => FrA a H H' ∧ RdAt T.C_BitReader H' a d (pos + 8 * i) ∧ H' D = some (.lst ((cs (bytesAt ds pos i)).map V.int)), ?_, fun i H' hi h => ?_, fun H' h => ?_⟩
    · refine ⟨(FrA.ex (ex3.trans e4)).trans (FrA.ex (Ex.new hD)), (hR.ex (ex3.trans e4)).ex (Ex.new hD), upd_same⟩
    · obtain ⟨hF, hR', hDl⟩ := h
      obtain ⟨dx', ha'⟩ := id hR'
      have hD0 : H D = none := by cases h : H D with | none => rfl | some o => rw [(ex3.trans e4) _ _ h] at hD; cases hD
      have hdd : H' d = some (.lst ((cs ds).map V.int)) := hF _ _ (hR.ne hd) hd
      refine ⟨rfl, mth (sp := sp_readX T.C_BitReader T.C_Truncated) (m := "read") (dvs := []) (vs := [.int 8]) (ev_var rfl) ha' rfl (ea_cons ev_c ea_nil) fun H6 e6 => ⟨a, d, ds, pos + 8 * i, 8, rfl, hR'.ex e6, e6 _ _ hdd, hds, by decide, by omega, fun _ H7 hF7 hR7 => ?_, fun hlt => by omega⟩⟩
      have hDa : D ≠ a := hR'.ne hDl
      have hD7 := hF7 _ _ hDa (e6 _ _ hDl)
      refine ⟨_, hD7, by rw [List.length_map, cs_len, bytesAt_len]; exact sz_lt (by omega), ?_, ?_, ?_⟩
      · exact fun b o hb ho => by
          rw [upd_ne (fun z => by rw [z, hD0] at ho; cases ho)]
          exact hF7 _ _ hb (e6 _ _ (hF _ _ hb ho))
      · obtain ⟨dx7, h7⟩ := hR7
        exact ⟨dx7, by rw [upd_ne hDa.symm]; exact h7⟩
      · rw [upd_same]
        unfold bytesAt
        rw [List.range_succ, List.map_append, cs_append, List.map_append]
        rfl
    · obtain ⟨hF, hR', hDl⟩ := h
      have hD0 : H D = none := by cases h : H D with | none => rfl | some o => rw [(ex3.trans e4) _ _ h] at hD; cases hD
      exact k D H' hD0 hF hR' hDl
  · have hc : pos % 8 = 0 := by simpa using hc
    have ex3 := ex2.trans e3
    refine q_asg (v := .int ((pos / 8 : Nat) : Int)) (ev_place (f := fun pos => (pos / 8 : Nat)) (ev_var rfl) (hR.ex ex3) rfl) fun H4 e4 => ?_
    have ex4 := ex3.trans e4
    refine q_fldaugI T.cl_BitReader T.n_BitReader_position (ev_var rfl) (ex4 _ _ ha) rfl (Ev.is (ev_I (ev_var rfl) ev_c (.inr (by decide))) (congrArg V.int (a₂ := ((8 * n : Nat) : Int)) (by omega))) (Nat.le_of_ble_eq_true rfl) fun H5 e5 => ?_
    rw [show (pos : Int) + ((8 * n : Nat) : Int) = ((pos + 8 * n : Nat) : Int) by omega]
    have hR6 : RdAt T.C_BitReader (upd H5 a (.ins T.C_BitReader dx (rF d (pos + 8 * n)))) a d (pos + 8 * n) := ⟨dx, upd_same⟩
    have hF6 : FrA a H (upd H5 a (.ins T.C_BitReader dx (rF d (pos + 8 * n)))) := (FrA.ex (ex4.trans e5)).upd
    have hd6 := hF6 _ _ (hR.ne hd) hd
    refine s_retL (xs := (cs (bytesAt ds pos n)).map V.int) (EvL.is (el_mid (ns := cs ds) (i := pos / 8) (j := pos / 8 + n) (Ev.s (ev_var rfl) (sq_of hd6)) (ev_var rfl) (Ev.is (ev_I0 (ev_var rfl) (ev_var rfl)) (congrArg V.int (by omega)))) (by
      rw [cs_drop, cs_take, show pos / 8 + n - pos / 8 = n by omega, ← bytesAt_al hds (by omega), show 8 * (pos / 8) = pos by omega])) fun p H7 hp e7 g7 => ?_
    exact k p H7 (by cases h : H p with | none => rfl | some o => by_cases hpa : p = a; (· rw [hpa, upd_same] at hp; cases hp); (· exact absurd ((hF6 _ _ hpa h).symm.trans hp) (fun z => by cases z))) (hF6.trans (FrA.ex e7)) (hR6.ex e7) g7

/-! ### BitWriter -/
def wF (L : Addr) (h n : Nat) : List (Str × V) := [("_whole", .ref L), ("_held", .int (h : Int)), ("_held_bits", .int (n : Int))]
def WrAt (C : Addr) (H : Hp) (a L : Addr) (ms : List Bool) : Prop := ∃ (dx : Addr) (ws : List Nat) (h n : Nat), H a = some (.ins C dx (wF L h n)) ∧ H L = some (.lst ((cs ws).map V.int)) ∧ n < 8 ∧ h < 2 ^ n ∧ (∀ b ∈ ws, b < 256) ∧ ws.flatMap bits8 ++ bitsN n h = ms
def Fr (a L : Addr) (H H' : Hp) : Prop := ∀ b o, b ≠ a → b ≠ L → H b = some o → H' b = some o
theorem Fr.trans {a L : Addr} {H H1 H2 : Hp} (h : Fr a L H H1) (g : Fr a L H1 H2) : Fr a L H H2 := fun b o n1 n2 e => g b o n1 n2 (h b o n1 n2 e)
theorem Fr.ex {a L : Addr} {H H1 : Hp} (h : Ex H H1) : Fr a L H H1 := fun b o _ _ e => h b o e
theorem Fr.upd1 {a L : Addr} {H H1 : Hp} {o : HO} (h : Fr a L H H1) : Fr a L H (upd H1 a o) := fun b p n1 n2 e => by rw [upd_ne n1]; exact h b p n1 n2 e
theorem Fr.upd2 {a L : Addr} {H H1 : Hp} {o : HO} (h : Fr a L H H1) : Fr a L H (upd H1 L o) := fun b p n1 n2 e => by rw [upd_ne n2]; exact h b p n1 n2 e
theorem WrAt.ex {C a L : Addr} {H H1 : Hp} {ms : List Bool} (e : Ex H H1) (h : WrAt C H a L ms) : WrAt C H1 a L ms := by
  obtain ⟨dx, ws, hd, n, h1, h2, h3⟩ := h
  exact ⟨dx, ws, hd, n, e _ _ h1, e _ _ h2, h3⟩
theorem WrAt.ne {C a L : Addr} {H : Hp} {ms : List Bool} (h : WrAt C H a L ms) : a ≠ L := by
  obtain ⟨dx, ws, hd, n, h1, h2, h3⟩ := h
  intro e
  rw [e, h2] at h1
  cases h1
theorem WrAt.len {C a L : Addr} {H : Hp} {ms : List Bool} (h : WrAt C H a L ms) : ∃ dx ws hd n, H a = some (.ins C dx (wF L hd n)) ∧ H L = some (.lst ((cs ws).map V.int)) ∧ n < 8 ∧ hd < 2 ^ n ∧ (∀ b ∈ ws, b < 256) ∧ ws.flatMap bits8 ++ bitsN n hd = ms ∧ ms.length = 8 * ws.length + n := by
  obtain ⟨dx, ws, hd, n, h1, h2, h3, h4, h5, h6⟩ := h
  exact ⟨dx, ws, hd, n, h1, h2, h3, h4, h5, h6, by rw [← h6, List.length_append, bits_flat_len, bitsN_len]⟩
def sp_winit (C : Addr) : Sp := fun vs H Q _ => ∃ a dx, vs = [.ref a] ∧ H a = some (.ins C dx []) ∧ ∀ L H', H L = none → (∀ b o, b ≠ a → H b = some o → H' b = some o) → WrAt C H' a L [] → Q .non H'
theorem ok_BitWriter_init (T : TX K mg) : FnOk P w K mg base CX0 1 T.a_BitWriter_init T.d_BitWriter_init ["self"] (sp_winit T.C_BitWriter) := by
  refine T.F_BitWriter_init.ok sc_BitWriter_init (fun vs H Q E h => by obtain ⟨a, dx, rfl, _⟩ := h; rfl) (fun cdv A outer s H vs Q E hr h => ?_)
  obtain ⟨a, dx, rfl, ha, k⟩ := h
  refine ⟨_, (pss_cons (ps_fld (pv 0) (pe_lst pa_nil) rfl)
      (pss_cons (ps_fld (pv 0) pe_int rfl)
      (pss_one (ps_fld (pv 0) pe_int rfl)))), ?_⟩
  refine q_fldL (xs := []) T.cl_BitWriter T.n_BitWriter_whole (el_lst ea_nil (by decide)) (fun _ _ => ev_var rfl) ha (by decide) fun L H2 hL1 e2 g2 => ?_
  have hne : a ≠ L := fresh_ne hL1 ha
  refine q_fld T.cl_BitWriter T.n_BitWriter_held (v := .int 0) ev_c (ev_var rfl) upd_same (Nat.le_of_ble_eq_true rfl) fun H3 e3 => ?_
  refine s_fld T.cl_BitWriter T.n_BitWriter_held_bits (v := .int 0) ev_c (ev_var rfl) upd_same (Nat.le_of_ble_eq_true rfl) fun H4 e4 => ?_
  refine k L _ hL1 (fun b o n e => ?_) ⟨dx, [], 0, 0, upd_same, ?_, by decide, by decide, (fun b hb => by cases hb), rfl⟩
  · rw [upd_ne n]
    refine e4 _ _ ?_
    rw [upd_ne n]
    refine e3 _ _ ?_
    rw [upd_ne n]
    exact e2 _ _ e
  · rw [upd_ne hne.symm]
    refine e4 _ _ ?_
    rw [upd_ne hne.symm]
    refine e3 _ _ ?_
    rw [upd_ne hne.symm]
    exact g2
def sp_wwrite (C : Addr) : Sp := fun vs H Q _ => ∃ (a L : Addr) (ms : List Bool) (wd : Nat) (v : Int), vs = [.ref a, .int (wd : Int), .int v] ∧ WrAt C H a L ms ∧ wd ≤ 1000 ∧ ms.length + wd ≤ 400000 ∧ ∀ H', Fr a L H H' → WrAt C H' a L (ms ++ bitsN wd (v % 2 ^ wd).toNat) → Q .non H'
theorem ok_BitWriter_write (T : TX K mg) : FnOk P w K mg base CX0 1 T.a_BitWriter_write T.d_BitWriter_write ["self", "width", "value"] (sp_wwrite T.C_BitWriter) := by
  refine T.F_BitWriter_write.ok sc_BitWriter_write (fun vs H Q E h => by obtain ⟨a, L, ms, wd, v, rfl, _⟩ := h; rfl) (fun cdv A outer s H vs Q E hr h => ?_)
  obtain ⟨a, L, ms, wd, v, rfl, hW, hw, hlen, k⟩ := h
  obtain ⟨dx, ws, hd, n, ha, hl, hn, hh, hws, hbits, hml⟩ := hW.len
  have hne := hW.ne
  refine ⟨_, (pss_cons (ps_set (i := 3) sc_BitWriter_write.nd rfl (Or.inl rfl) (pe_op op_or (pe_op op_shl (pe_fld (pv 0) rfl) (pv 1)) (pe_op op_and (pv 2) (pe_op op_sub (pe_op op_shl pe_int (pv 1)) pe_int))))
      (pss_cons (ps_set (i := 4) sc_BitWriter_write.nd rfl (Or.inl rfl) (pe_op op_add (pe_fld (pv 0) rfl) (pv 1)))
      (pss_cons (ps_while PassesOwn.never (pt_cmpR op_ge (pv 4) pe_int (nomark _)) (pss_cons (ps_aug (i := 4) sc_BitWriter_write.nd rfl (Or.inl rfl) pe_int ip_sub)
        (pss_cons (ps_expr (pe_bm PySem.F.plainAttrs_list PySem.F.slot_list_append PySem.F.type_list_append mt_append (pe_fld (pv 0) rfl) (pa_cons (pe_op op_shr (pv 3) (pv 4)) pa_nil)))
        (pss_one (ps_aug (i := 3) sc_BitWriter_write.nd rfl (Or.inl rfl) (pe_op op_sub (pe_op op_shl pe_int (pv 4)) pe_int) iop_and)))))
      (pss_cons (ps_fld (pv 0) (pv 3) rfl)
      (pss_one (ps_fld (pv 0) (pv 4) rfl)))))), ?_⟩
  have hm0 := Int.emod_nonneg v (show ((2 ^ wd : Nat) : Int) ≠ 0 by have := Nat.two_pow_pos wd; omega)
  have hm1 := Int.emod_lt_of_pos v (show (0 : Int) < ((2 ^ wd : Nat) : Int) by have := Nat.two_pow_pos wd; omega)
  rw [pow_cast wd] at k
  have hvv : Builtin.bitAnd v (1 * 2 ^ ((wd : Int)).toNat - 1) = (((v % ((2 ^ wd : Nat) : Int)).toNat : Nat) : Int) := by
    rw [Int.toNat_natCast, Int.one_mul, bitAnd_maskZ, pow_cast]
    omega
  have hvl : (v % ((2 ^ wd : Nat) : Int)).toNat < 2 ^ wd := by omega
  generalize hvn : (v % ((2 ^ wd : Nat) : Int)).toNat = vn at *
  have hh7 : hd < 256 := Nat.lt_of_lt_of_le hh (Nat.pow_le_pow_right (n := 2) (by decide) (by omega : n ≤ 8))
  refine q_asg (v := .int ((hd * 2 ^ wd + vn : Nat) : Int)) (Ev.is (ev_I0 (ev_I (ev_fld T.cl_BitWriter T.n_BitWriter_held (v := .int (hd : Int)) (ev_var rfl) ha rfl) (ev_var rfl) (show CPow (hd : Int) (wd : Int) from ⟨by omega, by omega, by rw [Int.natAbs_natCast]; omega⟩)) (ev_I0 (ev_var rfl) (ev_I0 (ev_I ev_c (ev_var rfl) (show CPow 1 (wd : Int) from ⟨by omega, by omega, by decide⟩)) ev_c))) (congrArg V.int ?_)) fun H1 e1 => ?_
  · rw [hvv, Int.toNat_natCast, _root_.Bits.bitOr_join' (by omega) (by rw [pow_cast]; omega) (by omega), Int.natCast_add, Int.natCast_mul, pow_cast]
    omega
  refine q_asg (v := .int ((n + wd : Nat) : Int)) (Ev.is (ev_I0 (ev_fld T.cl_BitWriter T.n_BitWriter_held_bits (v := .int (n : Int)) (ev_var rfl) (e1 _ _ ha) rfl) (ev_var rfl)) (congrArg V.int (by omega))) fun H2 e2 => ?_
  have ex2 := e1.trans e2
  refine q_while (fun m σ' H' => ∃ (x m' : Nat) (us : List Nat), m = m' ∧ m' ≤ n + wd ∧ σ' = [some (.ref a), some (.int (wd : Int)), some (.int v), some (.int (x : Int)), some (.int (m' : Int))] ∧ Fr a L H H' ∧ H' a = some (.ins T.C_BitWriter dx (wF L hd n)) ∧ H' L = some (.lst ((cs us).map V.int)) ∧ x < 2 ^ m' ∧ (∀ b ∈ us, b < 256) ∧ us.flatMap bits8 ++ bitsN m' x = ms ++ bitsN wd vn) (n + wd) ⟨hd * 2 ^ wd + vn, n + wd, ws, rfl, Nat.le_refl _, rfl, Fr.ex ex2, ex2 _ _ ha, ex2 _ _ hl, ?_, hws, ?_⟩ ?_
  · rw [Nat.pow_add]
    have : (hd + 1) * 2 ^ wd ≤ 2 ^ n * 2 ^ wd := Nat.mul_le_mul_right _ hh
    rw [Nat.add_mul, Nat.one_mul] at this
    omega
  · rw [bitsN_cat hvl, ← List.append_assoc, hbits]
  rintro m _ H3 ⟨x, _, us, rfl, hmle, rfl, hF, ha3, hl3, hx, hus, hb⟩
  have hul : 8 * us.length + m = ms.length + wd := by
    have := congrArg List.length hb
    rw [List.length_append, List.length_append, bits_flat_len, bitsN_len, bitsN_len] at this
    exact this
  refine ⟨decide (8 ≤ m), et_test (Ev.is (ev_I0 (ev_var rfl) ev_c) (congrArg V.bl (decide_eq_decide.mpr (by show (8 : Int) ≤ (m : Int) ↔ _; omega)))), fun hb8 H4 e4 => ?_, fun hb8 H4 e4 => ?_⟩
  · have h8 : 8 ≤ m := of_decide_eq_true hb8
    refine ⟨fun σ2 H2 => ∃ m', m' < m ∧ _, fun σ2 H2 h => h, ?_⟩
    refine q_aug (b := 8) rfl ev_c fun H5 e5 => ?_
    have hm8 : (m : Int) - 8 = ((m - 8 : Nat) : Int) := by omega
    rw [hm8]
    refine q_app (v := .int ((x / 2 ^ (m - 8) : Nat) : Int)) ((e4.trans e5) _ _ hl3) (ev_fld T.cl_BitWriter T.n_BitWriter_whole (v := .ref L) (ev_var rfl) ((e4.trans e5) _ _ ha3) rfl) (Ev.is (ev_I (ev_var rfl) (ev_var rfl) (by show (0 : Int) ≤ _; omega)) (congrArg V.int (by rw [Int.toNat_natCast, pow_cast, Int.natCast_ediv]))) (by rw [List.length_map, cs_len]; omega) fun H6 e6 => ?_
    refine s_augR (a := (x : Int)) (b := 1 * 2 ^ (m - 8) - 1) rfl (ev_I0 (ev_I ev_c (ev_var rfl) (show CPow 1 ((m - 8 : Nat) : Int) from ⟨by omega, by omega, by decide⟩)) ev_c) fun H7 e7 => ?_
    rw [Int.one_mul, bitAnd_maskZ, pow_cast, show (x : Int) % ((2 ^ (m - 8) : Nat) : Int) = ((x % 2 ^ (m - 8) : Nat) : Int) from (Int.natCast_emod _ _).symm]
    refine ⟨m - 8, by omega, x % 2 ^ (m - 8), m - 8, us ++ [x / 2 ^ (m - 8)], rfl, by omega, rfl, ?_, ?_, ?_, Nat.mod_lt _ (Nat.two_pow_pos _), ?_, ?_⟩
    · exact ((hF.trans (Fr.ex ((e4.trans e5).trans e6))).upd2).trans (Fr.ex e7)
    · refine e7 _ _ ?_
      rw [upd_ne hne]
      exact e6 _ _ ((e4.trans e5) _ _ ha3)
    · refine e7 _ _ ?_
      rw [upd_same, cs_append, List.map_append]
      rfl
    · intro b hb
      rcases List.mem_append.mp hb with h | h
      · exact hus b h
      · cases List.mem_singleton.mp h
        rw [show m = 8 + (m - 8) by omega, Nat.pow_add] at hx
        exact Nat.div_lt_of_lt_mul (by rw [Nat.mul_comm]; exact hx)
    · rw [← hb, List.flatMap_append, List.flatMap_cons, List.flatMap_nil, List.append_nil, List.append_assoc]
      congr 1
      conv => rhs; rw [show m = 8 + (m - 8) by omega, bitsN_add]
      rw [bitsN_mod]
      congr 1
  · have h8 : m < 8 := by
      have := of_decide_eq_false hb8
      omega
    refine q_fld T.cl_BitWriter T.n_BitWriter_held (v := .int (x : Int)) (ev_var rfl) (ev_var rfl) (e4 _ _ ha3) (Nat.le_of_ble_eq_true rfl) fun H5 e5 => ?_
    refine s_fld T.cl_BitWriter T.n_BitWriter_held_bits (v := .int (m : Int)) (ev_var rfl) (ev_var rfl) upd_same (Nat.le_of_ble_eq_true rfl) fun H6 e6 => ?_
    refine k _ (((((hF.trans (Fr.ex (e4.trans e5))).upd1).trans (Fr.ex e6)).upd1)) ⟨dx, us, x, m, upd_same, ?_, h8, hx, hus, hb⟩
    rw [upd_ne hne.symm]
    refine e6 _ _ ?_
    rw [upd_ne hne.symm]
    exact (e4.trans e5) _ _ hl3

theorem ok_BitWriter_write_signed (T : TX K mg) : FnOk P w K mg base CX0 2 T.a_BitWriter_write_signed T.d_BitWriter_write_signed ["self", "width", "value"] (sp_wwrite T.C_BitWriter) := by
  refine T.F_BitWriter_write_signed.ok sc_BitWriter_write_signed (fun vs H Q E h => by obtain ⟨a, L, ms, wd, v, rfl, _⟩ := h; rfl) (fun cdv A outer s H vs Q E hr h => ?_)
  obtain ⟨a, L, ms, wd, v, rfl, hW, hw, hlen, k⟩ := h
  obtain ⟨dx, ws, hd, n, ha, hl, hn, hh, hws, hbits, hml⟩ := hW.len
  refine ⟨_, (pss_one (ps_expr (pe_meth (pv 0) T.cl_BitWriter T.me_BitWriter_write (ok_BitWriter_write T) (hr.mono (by decide)) T.b_BitWriter_write .nil pass0 (pa_cons (pv 1) (pa_cons (pe_op op_and (pv 2) (pe_op op_sub (pe_op op_shl pe_int (pv 1)) pe_int)) pa_nil))))), ?_⟩
  refine s_dropM (vs := [.int (wd : Int), .int (v % 2 ^ wd)]) (ev_var rfl) ha rfl (ea_cons (ev_var rfl) (ea_cons (Ev.is (ev_I0 (ev_var rfl) (ev_I0 (ev_I ev_c (ev_var rfl) (show CPow 1 (wd : Int) from ⟨by omega, by omega, by decide⟩)) ev_c)) (congrArg V.int (by rw [Int.toNat_natCast, Int.one_mul, bitAnd_maskZ]))) ea_nil)) fun H1 e1 => ⟨a, L, ms, wd, _, rfl, hW.ex e1, hw, hlen, fun H2 hF hW2 => ?_⟩
  rw [Int.emod_emod] at hW2
  exact k H2 ((Fr.ex e1).trans hF) hW2
theorem bitsN_one (z : Nat) : bitsN (z + 1) ((1 : Int) % 2 ^ (z + 1)).toNat = List.replicate z false ++ [true] := by
  rw [pow_cast, show ((1 : Int) % ((2 ^ (z + 1) : Nat) : Int)).toNat = 1 % 2 ^ (z + 1) by rw [show ((1 : Int) % ((2 ^ (z + 1) : Nat) : Int)) = ((1 % 2 ^ (z + 1) : Nat) : Int) from (Int.natCast_emod 1 _).symm, Int.toNat_natCast], bitsN_mod, bitsN_add z 1 1, show 1 / 2 ^ 1 = 0 from rfl, bitsN_zero]
  rfl
theorem bitsN_z (z : Nat) : bitsN z ((0 : Int) % 2 ^ z).toNat = List.replicate z false := by
  rw [Int.zero_emod, Int.toNat_zero, bitsN_zero]
def sp_wunary (C : Addr) : Sp := fun vs H Q _ => ∃ (a L : Addr) (ms : List Bool) (c : Nat), vs = [.ref a, .int (c : Int)] ∧ WrAt C H a L ms ∧ ms.length + c ≤ 300000 ∧ ∀ H', Fr a L H H' → WrAt C H' a L (ms ++ (List.replicate c false ++ [true])) → Q .non H'
theorem ok_BitWriter_write_unary (T : TX K mg) : FnOk P w K mg base CX0 2 T.a_BitWriter_write_unary T.d_BitWriter_write_unary ["self", "count"] (sp_wunary T.C_BitWriter) := by
  refine T.F_BitWriter_write_unary.ok sc_BitWriter_write_unary (fun vs H Q E h => by obtain ⟨a, L, ms, c, rfl, _⟩ := h; rfl) (fun cdv A outer s H vs Q E hr h => ?_)
  obtain ⟨a, L, ms, c, rfl, hW, hlen, k⟩ := h
  refine ⟨_, (pss_cons (ps_set (i := 2) sc_BitWriter_write_unary.nd rfl (Or.inl rfl) (pv 1))
      (pss_cons (ps_while PassesOwn.never (pt_cmpR op_gt (pv 2) (pe_glob (by rfl) T.c_MOST_ZEROS T.r_MOST_ZEROS) (nomark _)) (pss_cons (ps_expr (pe_meth (pv 0) T.cl_BitWriter T.me_BitWriter_write (ok_BitWriter_write T) (hr.mono (by decide)) T.b_BitWriter_write .nil pass0 (pa_cons (pe_glob (by rfl) T.c_MOST_ZEROS T.r_MOST_ZEROS) (pa_cons pe_int pa_nil))))
        (pss_one (ps_aug (i := 2) sc_BitWriter_write_unary.nd rfl (Or.inl rfl) (pe_glob (by rfl) T.c_MOST_ZEROS T.r_MOST_ZEROS) ip_sub))))
      (pss_one (ps_expr (pe_meth (pv 0) T.cl_BitWriter T.me_BitWriter_write (ok_BitWriter_write T) (hr.mono (by decide)) T.b_BitWriter_write .nil pass0 (pa_cons (pe_op op_add (pv 2) pe_int) (pa_cons pe_int pa_nil))))))), ?_⟩
  walk_at "asg"
  intro H1 e1
  refine q_while (fun m σ' H' => ∃ z, m = z ∧ z ≤ c ∧ σ' = [some (.ref a), some (.int (c : Int)), some (.int (z : Int))] ∧ Fr a L H H' ∧ WrAt T.C_BitWriter H' a L (ms ++ List.replicate (c - z) false)) c ⟨c, rfl, Nat.le_refl _, rfl, Fr.ex e1, by rw [Nat.sub_self]; show WrAt _ _ _ _ (ms ++ []); rw [List.append_nil]; exact hW.ex e1⟩ ?_
  rintro z _ H2 ⟨_, rfl, hz, rfl, hF, hW2⟩
  refine ⟨decide (56 < z), et_test (Ev.is (ev_I0 (ev_var rfl) ev_c) (congrArg V.bl (decide_eq_decide.mpr (by show (z : Int) > 56 ↔ _; omega)))), fun hb H3 e3 => ?_, fun hb H3 e3 => ?_⟩
  · have h56 : 56 < z := of_decide_eq_true hb
    refine ⟨fun σ2 H2 => ∃ m', m' < z ∧ _, fun σ2 H2 h => h, ?_⟩
    have hW3 := hW2.ex e3
    obtain ⟨dx, ws, hd, n, ha, _⟩ := hW3.len
    refine q_dropM (vs := [.int 56, .int 0]) (ev_var rfl) ha rfl (ea_cons ev_c (ea_cons ev_c ea_nil)) fun H4 e4 => ⟨a, L, _, 56, 0, rfl, hW3.ex e4, by decide, by rw [List.length_append, List.length_replicate]; omega, fun H5 hF5 hW5 => ?_⟩
    refine s_aug (b := 56) rfl ev_c fun H6 e6 => ?_
    rw [bitsN_z, List.append_assoc, List.replicate_append_replicate, show c - z + 56 = c - (z - 56) by omega] at hW5
    refine ⟨z - 56, by omega, z - 56, rfl, by omega, by rw [show (z : Int) - 56 = ((z - 56 : Nat) : Int) by omega]; rfl, ((hF.trans (Fr.ex (e3.trans e4))).trans hF5).trans (Fr.ex e6), hW5.ex e6⟩
  · have hW3 := hW2.ex e3
    obtain ⟨dx, ws, hd, n, ha, _⟩ := hW3.len
    have hz56 : z ≤ 56 := by have := of_decide_eq_false hb; omega
    refine s_dropM (vs := [.int ((z + 1 : Nat) : Int), .int 1]) (ev_var rfl) ha rfl (ea_cons (Ev.is (ev_I0 (ev_var rfl) ev_c) (congrArg V.int (by omega))) (ea_cons ev_c ea_nil)) fun H4 e4 => ⟨a, L, _, z + 1, 1, rfl, hW3.ex e4, by omega, by rw [List.length_append, List.length_replicate]; omega, fun H5 hF5 hW5 => ?_⟩
    rw [bitsN_one, ← List.append_assoc, List.append_assoc ms, List.replicate_append_replicate, show c - z + z = c by omega, List.append_assoc] at hW5
    exact k H5 ((hF.trans (Fr.ex (e3.trans e4))).trans hF5) hW5
def sp_wpad (C : Addr) : Sp := fun vs H Q _ => ∃ (a L : Addr) (ms : List Bool), vs = [.ref a] ∧ WrAt C H a L ms ∧ ms.length ≤ 300000 ∧ ∀ H', Fr a L H H' → WrAt C H' a L (ms ++ List.replicate (padN ms.length) false) → Q .non H'
theorem ok_BitWriter_pad (T : TX K mg) : FnOk P w K mg base CX0 2 T.a_BitWriter_pad T.d_BitWriter_pad ["self"] (sp_wpad T.C_BitWriter) := by
  refine T.F_BitWriter_pad.ok sc_BitWriter_pad (fun vs H Q E h => by obtain ⟨a, L, ms, rfl, _⟩ := h; rfl) (fun cdv A outer s H vs Q E hr h => ?_)
  obtain ⟨a, L, ms, rfl, hW, hlen, k⟩ := h
  obtain ⟨dx, ws, hd, n, ha, hl, hn, hh, hws, hbits, hml⟩ := hW.len
  have hfld : ∀ {H1 : Hp}, Ex H H1 → Ev (tFld K (tVar 0) "_held_bits") (start ["self"] [.ref a]) H1 (.int (n : Int)) := fun e => ev_fld T.cl_BitWriter T.n_BitWriter_held_bits (ev_var rfl) (e _ _ ha) rfl
  refine ⟨_, (pss_one (ps_if (pt_cmpR op_gt (pe_fld (pv 0) rfl) pe_int (nomark _)) (pss_one (ps_expr (pe_meth (pv 0) T.cl_BitWriter T.me_BitWriter_write (ok_BitWriter_write T) (hr.mono (by decide)) T.b_BitWriter_write .nil pass0 (pa_cons (pe_op op_sub pe_int (pe_fld (pv 0) rfl)) (pa_cons pe_int pa_nil))))) pss_nil)), ?_⟩
  have hp : padN ms.length = if 0 < n then 8 - n else 0 := by
    unfold padN
    split <;> omega
  refine s_when (b := decide (0 < n)) (et_test (Ev.is (ev_I0 (hfld (Ex.refl H)) ev_c) (congrArg V.bl (decide_eq_decide.mpr (by show (n : Int) > 0 ↔ _; omega))))) (fun hb H1 e1 => ?_) (fun hb H1 e1 => ?_)
  · have h0 : 0 < n := of_decide_eq_true hb
    refine s_dropM (vs := [.int ((8 - n : Nat) : Int), .int 0]) (ev_var rfl) (e1 _ _ ha) rfl (ea_cons (Ev.is (ev_I0 ev_c (hfld e1)) (congrArg V.int (by omega))) (ea_cons ev_c ea_nil)) fun H4 e4 => ⟨a, L, _, 8 - n, 0, rfl, hW.ex (e1.trans e4), by omega, by omega, fun H5 hF5 hW5 => ?_⟩
    rw [bitsN_z] at hW5
    rw [hp, if_pos h0] at k
    exact k H5 ((Fr.ex (e1.trans e4)).trans hF5) hW5
  · have h0 : ¬ 0 < n := of_decide_eq_false hb
    rw [hp, if_neg h0] at k
    refine k H1 (Fr.ex e1) ?_
    show WrAt _ _ _ _ (ms ++ [])
    rw [List.append_nil]
    exact hW.ex e1
theorem s_ext {σ : L2.St} {H : Hp} {ta te : TE} {D : Ends} {l b : Addr} {xs zs : List V} (hl : H l = some (.lst xs)) (hb : H b = some (.lst zs)) (ha : Ev ta σ H (.ref l)) (he : Ev te σ H (.ref b)) (hs : xs.length + zs.length ≤ 100000) (k : ∀ H1, Ex H H1 → D.nx σ (upd H1 l (.lst (xs ++ zs)))) : tDrop (tBM K "list" rExtend ta (tCons te tNil)) D σ H :=
  ha H (Ex.refl H) _ fun H1 e1 => ⟨.inl ⟨rfl, _, SqL.of (e1 _ _ hl)⟩, he H1 e1 _ fun H2 e2 => ⟨l, b, xs, zs, rfl, rfl, (e1.trans e2) _ _ hl, (e1.trans e2) _ _ hb, sz_of hs, k H2 (e1.trans e2)⟩⟩
def sp_wbytes (C : Addr) : Sp := fun vs H Q _ => ∃ (a L b : Addr) (ms : List Bool) (ds : List Nat), vs = [.ref a, .ref b] ∧ WrAt C H a L ms ∧ H b = some (.lst ((cs ds).map V.int)) ∧ b ≠ L ∧ (∀ d ∈ ds, d < 256) ∧ ms.length + 8 * ds.length ≤ 300000 ∧ ∀ H', Fr a L H H' → WrAt C H' a L (ms ++ ds.flatMap bits8) → Q .non H'
theorem bitsN_8 {d : Nat} (h : d < 256) : bitsN 8 ((d : Int) % 2 ^ 8).toNat = bits8 d := by
  rw [bits8_N]
  congr 1
  omega
theorem ok_BitWriter_append_bytes (T : TX K mg) : FnOk P w K mg base CX0 2 T.a_BitWriter_append_bytes T.d_BitWriter_append_bytes ["self", "data"] (sp_wbytes T.C_BitWriter) := by
  refine T.F_BitWriter_append_bytes.ok sc_BitWriter_append_bytes (fun vs H Q E h => by obtain ⟨a, L, b, ms, ds, rfl, _⟩ := h; rfl) (fun cdv A outer s H vs Q E hr h => ?_)
  obtain ⟨a, L, b, ms, ds, rfl, hW, hb, hbL, hds, hlen, k⟩ := h
  obtain ⟨dx, ws, hd, n, ha, hl, hn, hh, hws, hbits, hml⟩ := hW.len
  have hba : b ≠ a := by
    intro e
    rw [e, ha] at hb
    cases hb
  refine ⟨_, (pss_one (ps_if (pt_cmpR op_eq (pe_fld (pv 0) rfl) pe_int (nomark _)) (pss_one (ps_expr (pe_bm PySem.F.plainAttrs_list PySem.F.slot_list_extend PySem.F.type_list_extend mt_extend (pe_fld (pv 0) rfl) (pa_cons (pv 1) pa_nil)))) (pss_one (ps_for PassesOwn.never rfl (pi_list (pv 1)) (pg_name (i := 2) sc_BitWriter_append_bytes.nd rfl (Or.inl rfl)) (pss_one (ps_expr (pe_meth (pv 0) T.cl_BitWriter T.me_BitWriter_write (ok_BitWriter_write T) (hr.mono (by decide)) T.b_BitWriter_write .nil pass0 (pa_cons pe_int (pa_cons (pv 2) pa_nil))))))))), ?_⟩
  refine s_if (b := decide (n = 0)) (et_test (Ev.is (ev_eq (ev_fld T.cl_BitWriter T.n_BitWriter_held_bits (v := .int (n : Int)) (ev_var rfl) ha rfl) ev_c rfl) (congrArg V.bl (decide_eq_decide.mpr ⟨fun h => by have := V.int.inj h; omega, fun h => by rw [h]; rfl⟩)))) (fun h0 H1 e1 => ?_) (fun _ H1 e1 => ?_)
  · have h0 : n = 0 := of_decide_eq_true h0
    subst h0
    refine s_ext (e1 _ _ hl) (e1 _ _ hb) (ev_fld T.cl_BitWriter T.n_BitWriter_whole (v := .ref L) (ev_var rfl) (e1 _ _ ha) rfl) (ev_var rfl) (by rw [List.length_map, List.length_map, cs_len, cs_len]; omega) fun H2 e2 => ?_
    refine k _ (Fr.ex (e1.trans e2)).upd2 ⟨dx, ws ++ ds, hd, 0, ?_, ?_, by decide, hh, ?_, ?_⟩
    · rw [upd_ne hW.ne]
      exact (e1.trans e2) _ _ ha
    · rw [upd_same, cs_append, List.map_append]
    · intro d hd
      rcases List.mem_append.mp hd with h | h
      · exact hws d h
      · exact hds d h
    · rw [← hbits, List.flatMap_append]
      show _ ++ [] = _ ++ [] ++ _
      rw [List.append_nil, List.append_nil]
  · refine s_forLn (K := K) (xs := (cs ds).map V.int) (a := b) (ev_var rfl) (sq_of (e1 _ _ hb)) (fun i σ' H' => ∃ c, σ' = [some (.ref a), some (.ref b), c] ∧ Fr a L H H' ∧ WrAt T.C_BitWriter H' a L (ms ++ (ds.take i).flatMap bits8)) (fun H2 e2 => ⟨none, rfl, Fr.ex (e1.trans e2), by show WrAt _ _ _ _ (ms ++ []); rw [List.append_nil]; exact hW.ex (e1.trans e2)⟩) (fun i σ' H' _ h => by obtain ⟨_, _, hF, _⟩ := h; exact sq_of (hF _ _ hba hbL hb)) ?_ ?_
    · rintro i x σ' H2 hx ⟨c, rfl, hF, hW2⟩
      obtain ⟨n2, hn2, hi, rfl⟩ := int_at hx
      rw [cs_len] at hi
      have hd2 : ds[i]? = some ds[i] := List.getElem?_eq_getElem hi
      have hn3 := cs_at hd2
      rw [hn2] at hn3
      have hn3 := Option.some.inj hn3
      have hlt : ds[i] < 256 := hds _ (List.getElem_mem hi)
      rw [show ds.take (i + 1) = ds.take i ++ [ds[i]] from by rw [List.take_add_one, hd2]; rfl, List.flatMap_append, List.flatMap_cons, List.flatMap_nil, List.append_nil]
      generalize ds[i] = d at *
      subst hn3
      obtain ⟨dx2, ws2, hd2', nn, ha2, _⟩ := hW2.len
      refine s_dropM (vs := [.int 8, .int (d : Int)]) (ev_var rfl) ha2 rfl (ea_cons ev_c (ea_cons (ev_var rfl) ea_nil)) fun H4 e4 => ⟨a, L, _, 8, (d : Int), rfl, hW2.ex e4, by decide, by rw [List.length_append, bits_flat_len, List.length_take]; omega, fun H5 hF5 hW5 => ?_⟩
      rw [bitsN_8 hlt, List.append_assoc] at hW5
      exact ⟨_, rfl, (hF.trans (Fr.ex e4)).trans hF5, hW5⟩
    · rintro σ' H2 ⟨c, rfl, hF, hW2⟩
      rw [List.length_map, cs_len, List.take_length] at hW2
      exact k H2 hF hW2
def sp_wlist (C : Addr) : Sp := fun vs H Q _ => ∃ (a L : Addr) (ms : List Bool), vs = [.ref a] ∧ WrAt C H a L ms ∧ ms.length ≤ 300000 ∧ ∀ p us H', H p = none → Ex H H' → H' p = some (.lst ((cs us).map V.int)) → us.flatMap bits8 = ms ++ List.replicate (padN ms.length) false → (∀ b ∈ us, b < 256) → Q (.ref p) H'
theorem ok_BitWriter_byte_list (T : TX K mg) : FnOk P w K mg base CX0 1 T.a_BitWriter_byte_list T.d_BitWriter_byte_list ["self"] (sp_wlist T.C_BitWriter) := by
  refine T.F_BitWriter_byte_list.ok sc_BitWriter_byte_list (fun vs H Q E h => by obtain ⟨a, L, ms, rfl, _⟩ := h; rfl) (fun cdv A outer s H vs Q E hr h => ?_)
  obtain ⟨a, L, ms, rfl, hW, hlen, k⟩ := h
  obtain ⟨dx, ws, hd, n, ha, hl, hn, hh, hws, hbits, hml⟩ := hW.len
  have f1 : ∀ {H1 : Hp}, Ex H H1 → Ev (tFld K (tVar 0) "_whole") (start ["self"] [.ref a]) H1 (.ref L) := fun e => ev_fld T.cl_BitWriter T.n_BitWriter_whole (ev_var rfl) (e _ _ ha) rfl
  have f2 : ∀ {H1 : Hp}, Ex H H1 → Ev (tFld K (tVar 0) "_held") (start ["self"] [.ref a]) H1 (.int (hd : Int)) := fun e => ev_fld T.cl_BitWriter T.n_BitWriter_held (ev_var rfl) (e _ _ ha) rfl
  have f3 : ∀ {H1 : Hp}, Ex H H1 → Ev (tFld K (tVar 0) "_held_bits") (start ["self"] [.ref a]) H1 (.int (n : Int)) := fun e => ev_fld T.cl_BitWriter T.n_BitWriter_held_bits (ev_var rfl) (e _ _ ha) rfl
  refine ⟨_, (pss_cons (ps_if (pt_cmpR op_eq (pe_fld (pv 0) rfl) pe_int (nomark _)) (pss_one (ps_ret (pe_callTy (r := rListS K) call_list_of (by rfl) T.m_list PyProof.Rows.boot_list (pa_cons (pe_fld (pv 0) rfl) pa_nil)))) pss_nil)
      (pss_one (ps_ret (pe_op op_cat (pe_fld (pv 0) rfl) (pe_lst (pa_cons (pe_op op_shl (pe_fld (pv 0) rfl) (pe_op op_sub pe_int (pe_fld (pv 0) rfl))) pa_nil)))))), ?_⟩
  refine q_when (b := decide (n = 0)) (et_test (Ev.is (ev_eq (f3 (Ex.refl H)) ev_c rfl) (congrArg V.bl (decide_eq_decide.mpr ⟨fun h => by have := V.int.inj h; omega, fun h => by rw [h]; rfl⟩)))) (fun h0 H1 e1 => ?_) (fun h0 H1 e1 => ?_)
  · have h0 : n = 0 := of_decide_eq_true h0
    subst h0
    refine s_retL (el_of (Ev.s (f1 e1) (sq_of (e1 _ _ hl)))) fun p H2 hp e2 g2 => ?_
    refine k p ws H2 (by cases h : H p with | none => rfl | some o => rw [e1 _ _ h] at hp; cases hp) (e1.trans e2) g2 ?_ hws
    have : padN ms.length = 0 := by unfold padN; omega
    rw [this, ← hbits]
    show _ = _ ++ [] ++ []
    rw [List.append_nil, List.append_nil]
  · have h0 : ¬ n = 0 := of_decide_eq_false h0
    have hh8 : hd < 256 := Nat.lt_of_lt_of_le hh (Nat.pow_le_pow_right (n := 2) (by decide) (by omega : n ≤ 8))
    refine s_retL (xs := (cs (ws ++ [hd * 2 ^ (8 - n)])).map V.int) (EvL.is (el_cat (Ev.r (f1 e1) (e1 _ _ hl)) (EvL.r (el_lst (vs := [.int ((hd * 2 ^ (8 - n) : Nat) : Int)]) (ea_cons (Ev.is (ev_I (j := ((8 - n : Nat) : Int)) (f2 e1) (Ev.is (ev_I0 ev_c (f3 e1)) (congrArg V.int (by omega))) (show CPow (hd : Int) ((8 - n : Nat) : Int) from ⟨by omega, by omega, by rw [Int.natAbs_natCast]; omega⟩)) (congrArg V.int (by rw [Int.toNat_natCast, pow_cast, Int.natCast_mul]))) ea_nil) (Nat.le_of_ble_eq_true rfl))) ?_) ?_) fun p H2 hp e2 g2 => ?_
    · rw [List.length_map, cs_len]
      show _ + 1 ≤ _
      omega
    · rw [cs_append, List.map_append]
      rfl
    · refine k p _ H2 (by cases h : H p with | none => rfl | some o => rw [e1 _ _ h] at hp; cases hp) (e1.trans e2) g2 ?_ ?_
      · have : padN ms.length = 8 - n := by unfold padN; omega
        rw [this, ← hbits, List.flatMap_append, List.flatMap_cons, List.flatMap_nil, List.append_nil, List.append_assoc, bits8_N]
        congr 1
        have h8 : 8 = n + (8 - n) := by omega
        conv => lhs; rw [h8]
        rw [show n + (8 - n) - n = 8 - n by omega]
        have h3 := bitsN_cat (n := n) (w := 8 - n) (h := hd) (v := 0) (Nat.two_pow_pos _)
        rw [Nat.add_zero, bitsN_zero] at h3
        exact h3
      · intro d hdm
        rcases List.mem_append.mp hdm with h | h
        · exact hws d h
        · cases List.mem_singleton.mp h
          have h3 : hd * 2 ^ (8 - n) < 2 ^ n * 2 ^ (8 - n) := Nat.mul_lt_mul_of_pos_right hh (Nat.two_pow_pos _)
          rw [← Nat.pow_add, show n + (8 - n) = 8 by omega] at h3
          exact h3
def sp_wmany (C : Addr) : Sp := fun vs H Q _ => ∃ (a L : Addr) (ms : List Bool), vs = [.ref a] ∧ WrAt C H a L ms ∧ RetV (.int (ms.length : Int)) H Q
theorem ok_BitWriter_bits_written (T : TX K mg) : FnOk P w K mg base CX0 1 T.a_BitWriter_bits_written T.d_BitWriter_bits_written ["self"] (sp_wmany T.C_BitWriter) := by
  refine T.F_BitWriter_bits_written.ok sc_BitWriter_bits_written (fun vs H Q E h => by obtain ⟨a, L, ms, rfl, _⟩ := h; rfl) (fun cdv A outer s H vs Q E hr h => ?_)
  obtain ⟨a, L, ms, rfl, hW, k⟩ := h
  obtain ⟨dx, ws, hd, n, ha, hl, hn, hh, hws, hbits, hml⟩ := hW.len
  refine ⟨_, (pss_one (ps_ret (pe_op op_add (pe_op op_mul (pe_callB (r := rLenS K) call_len_seq (by rfl) T.m_len PySem.boot_len (pa_cons (pe_fld (pv 0) rfl) pa_nil)) pe_int) (pe_fld (pv 0) rfl)))), ?_⟩
  refine s_ret (v := .int (ms.length : Int)) (Ev.is (ev_I0 (ev_I (ev_lenS (Ev.s (ev_fld T.cl_BitWriter T.n_BitWriter_whole (v := .ref L) (ev_var rfl) ha rfl) (sq_of hl))) ev_c (.inr (by decide))) (ev_fld T.cl_BitWriter T.n_BitWriter_held_bits (v := .int (n : Int)) (ev_var rfl) ha rfl)) (congrArg V.int (by rw [List.length_map, cs_len]; omega))) fun H1 e1 => k H1 e1

theorem chunk : ∀ (us : List Nat) (k : Nat), k < us.length → ((us.flatMap bits8).drop (8 * k)).take 8 = bits8 (us.getD k 0)
  | u :: r, 0, _ => by
    rw [List.flatMap_cons]
    show ((bits8 u ++ _).drop 0).take 8 = bits8 u
    rw [List.drop_zero]
    exact List.take_left' (l₁ := bits8 u) rfl
  | u :: r, k + 1, h => by
    rw [List.flatMap_cons, show 8 * (k + 1) = (bits8 u).length + 8 * k by show _ = 8 + 8 * k; omega, List.drop_append, List.drop_of_length_le (by omega), List.nil_append, show (bits8 u).length + 8 * k - (bits8 u).length = 8 * k by omega]
    exact chunk r k (by simp at h; omega)
theorem us_of {ws : List Nat} {hd n : Nat} {ms : List Bool} (hn : n < 8) (hh : hd < 2 ^ n) (hws : ∀ b ∈ ws, b < 256) (hbits : ws.flatMap bits8 ++ bitsN n hd = ms) : ∃ us : List Nat, us.flatMap bits8 = ms ++ List.replicate (padN ms.length) false ∧ ∀ u ∈ us, u < 256 := by
  have hml : ms.length = 8 * ws.length + n := by rw [← hbits, List.length_append, bits_flat_len, bitsN_len]
  by_cases h0 : n = 0
  · subst h0
    refine ⟨ws, ?_, hws⟩
    have : padN ms.length = 0 := by unfold padN; omega
    rw [this, ← hbits]
    show _ = _ ++ [] ++ []
    rw [List.append_nil, List.append_nil]
  · refine ⟨ws ++ [hd * 2 ^ (8 - n)], ?_, ?_⟩
    · have : padN ms.length = 8 - n := by unfold padN; omega
      rw [this, ← hbits, List.flatMap_append, List.flatMap_cons, List.flatMap_nil, List.append_nil, List.append_assoc, bits8_N]
      congr 1
      have h8 : 8 = n + (8 - n) := by omega
      conv => lhs; rw [h8]
      rw [show n + (8 - n) - n = 8 - n by omega]
      have h3 := bitsN_cat (n := n) (w := 8 - n) (h := hd) (v := 0) (Nat.two_pow_pos _)
      rw [Nat.add_zero, bitsN_zero] at h3
      exact h3
    · intro d hdm
      rcases List.mem_append.mp hdm with h | h
      · exact hws d h
      · cases List.mem_singleton.mp h
        have h3 : hd * 2 ^ (8 - n) < 2 ^ n * 2 ^ (8 - n) := Nat.mul_lt_mul_of_pos_right hh (Nat.two_pow_pos _)
        rw [← Nat.pow_add, show n + (8 - n) = 8 by omega] at h3
        exact h3
theorem us_one {us vs : List Nat} (hu : ∀ u ∈ us, u < 256) (hv : ∀ u ∈ vs, u < 256) (h : us.flatMap bits8 = vs.flatMap bits8) : us = vs := by
  have hl : us.length = vs.length := by
    have := congrArg List.length h
    rw [bits_flat_len, bits_flat_len] at this
    omega
  refine List.ext_getElem? fun k => ?_
  by_cases hk : k < us.length
  · have h1 : us[k]? = some (us.getD k 0) := by rw [List.getD_eq_getElem?_getD, List.getElem?_eq_getElem hk]; rfl
    have h2 : vs[k]? = some (vs.getD k 0) := by rw [List.getD_eq_getElem?_getD, List.getElem?_eq_getElem (by omega)]; rfl
    have c1 := chunk us k hk
    have c2 := chunk vs k (by omega)
    rw [h, c2] at c1
    have c3 := congrArg valL c1
    rw [valL_8 _ (hu _ (List.mem_of_getElem? h1)), valL_8 _ (hv _ (List.mem_of_getElem? h2))] at c3
    rw [h1, h2, c3]
  · rw [List.getElem?_eq_none (by omega), List.getElem?_eq_none (by omega)]
theorem er_list {σ : L2.St} {H : Hp} {to : TE} {E : XK} {C a L : Addr} {ms : List Bool} {us : List Nat} (h : Ev to σ H (.ref a)) (hW : WrAt C H a L ms) (hl : ms.length ≤ 300000) (hus : us.flatMap bits8 = ms ++ List.replicate (padN ms.length) false) (hu : ∀ u ∈ us, u < 256) : EvL (tMeth C "byte_list" (sp_wlist C) [] E to tNil) σ H ((cs us).map V.int) := fun H1 e Q q => by
  obtain ⟨dx, ws, hd, n, ha, _⟩ := hW.len
  refine h H1 e _ fun H2 e2 => ⟨a, dx, _, rfl, (e.trans e2) _ _ ha, rfl, a, L, ms, rfl, hW.ex (e.trans e2), hl, fun p vs H3 hp e3 g3 hv1 hv2 => ?_⟩
  have := us_one hu hv2 (hus.trans hv1.symm)
  subst this
  exact q p H3 (by cases h : H1 p with | none => rfl | some o => rw [e2 _ _ h] at hp; cases hp) (e2.trans e3) g3
theorem WrAt.back {C a L : Addr} {H H1 : Hp} {ms ms1 : List Bool} (h : WrAt C H a L ms) (h1 : WrAt C H1 a L ms1) (hF : Fr a L H H1) {q : Addr} (hq : H1 q = none) : H q = none := by
  cases hc : H q with
  | none => rfl
  | some o =>
    obtain ⟨dx, ws, hd, n, ha, hl, _⟩ := h1
    by_cases e1 : q = a
    · rw [e1, ha] at hq
      cases hq
    · by_cases e2 : q = L
      · rw [e2, hl] at hq
        cases hq
      · rw [hF q o e1 e2 hc] at hq
        cases hq
theorem WrAt.fr {C a L a2 L2' : Addr} {H H1 : Hp} {ms : List Bool} (h : WrAt C H a L ms) (hF : Fr a2 L2' H H1) (n1 : a ≠ a2) (n2 : a ≠ L2') (n3 : L ≠ a2) (n4 : L ≠ L2') : WrAt C H1 a L ms := by
  obtain ⟨dx, ws, hd, n, h1, h2, h3⟩ := h
  exact ⟨dx, ws, hd, n, hF _ _ n1 n2 h1, hF _ _ n3 n4 h2, h3⟩
theorem self_mod {v w : Nat} (h : v < 2 ^ w) : ((v : Int) % 2 ^ w).toNat = v := by
  rw [pow_cast, show ((v : Int) % ((2 ^ w : Nat) : Int)) = ((v % 2 ^ w : Nat) : Int) from (Int.natCast_emod _ _).symm, Int.toNat_natCast, Nat.mod_eq_of_lt h]
theorem mk_w {C : Addr} {E : XK} {σ : L2.St} {H : Hp} {Q : VK} (k : ∀ a L H', H a = none → H L = none → Ex H H' → WrAt C H' a L [] → Q (.ref a) H') : tMake C (sp_winit C) [] E tNil σ H Q := fun x dx hx hdx hne => by
  have hex : ∀ b o, H b = some o → upd (upd H dx (HO.own x)) x (HO.ins C dx []) b = some o := fun b o hb => by
    rw [upd_ne (fresh_ne hx hb), upd_ne (fresh_ne hdx hb)]
    exact hb
  refine ⟨x, dx, rfl, upd_same, fun L H' hL hF hW => ⟨rfl, k x L H' hx ?_ (fun b o hb => hF b o (fresh_ne hx hb) (hex b o hb)) hW⟩⟩
  cases h : H L with
  | none => rfl
  | some o => rw [hex L o h] at hL; cases hL

theorem q_forL' {σ : L2.St} {H : Hp} {D : Ends} {tu tz : TS} {tl : TE} {g : TG} {xs : List V} (h : EvL tl σ H xs) (k : ∀ p H1, H p = none → Ex H H1 → H1 p = some (.lst xs) → tSeq (tFor (iList K (tC (.ref p))) g tu) tz D σ H1) : tSeq (tFor (iList K tl) g tu) tz D σ H := h H (Ex.refl H) _ fun p H1 hp e g => k p H1 hp e g
theorem mk_r {C : Addr} {E : XK} {σ : L2.St} {H : Hp} {Q : VK} {t1 t2 : TE} {xs : List V} {n : Nat} (h1 : EvL t1 σ H xs) (h2 : Ev t2 σ H (.int (n : Int))) (hn : n ≤ 1000000) (k : ∀ a d H', H a = none → a ≠ d → H d = none → Ex H H' → H' d = some (.lst xs) → RdAt C H' a d (8 * n) → Q (.ref a) H') : tMake C (sp_rinit C) [] E (tCons t1 (tCons t2 tNil)) σ H Q :=
  h1 H (Ex.refl H) _ fun d H1 hd e1 g1 => h2 H1 e1 _ fun H2 e2 => fun x dx hx hdx hne => by
    have e12 := e1.trans e2
    have hxd : d ≠ x := fresh_ne hx (e2 _ _ g1)
    have hex : ∀ b o, H2 b = some o → upd (upd H2 dx (HO.own x)) x (HO.ins C dx []) b = some o := fun b o hb => by
      rw [upd_ne (fresh_ne hx hb), upd_ne (fresh_ne hdx hb)]
      exact hb
    refine ⟨x, dx, d, n, rfl, upd_same, hn, fun H' hF hR => ⟨rfl, k x d H' ?_ hxd.symm hd (fun b o hb => hF b o (fresh_ne hx (e12 _ _ hb)) (hex b o (e12 _ _ hb))) (hF d _ hxd (hex d _ (e2 _ _ g1))) hR⟩⟩
    cases h : H x with
    | none => rfl
    | some o => rw [e12 _ _ h] at hx; cases hx
theorem q_mk_r {C : Addr} {E : XK} {σ : L2.St} {H : Hp} {D : Ends} {tz : TS} {i : Nat} {t1 t2 : TE} {xs : List V} {n : Nat} (h1 : EvL t1 σ H xs) (h2 : Ev t2 σ H (.int (n : Int))) (hn : n ≤ 1000000) (k : ∀ a d H', H a = none → a ≠ d → H d = none → Ex H H' → H' d = some (.lst xs) → RdAt C H' a d (8 * n) → tz D (σ.set i (some (.ref a))) H') : tSeq (tAsg (tMake C (sp_rinit C) [] E (tCons t1 (tCons t2 tNil))) (gName i)) tz D σ H := mk_r (Q := fun x H' => tz D (σ.set i (some x)) H') h1 h2 hn k

/-- if o.m(..) OP e: .., what m promises first -/
theorem q_whenMop {σ : L2.St} {H : Hp} {to tb : TE} {a C dx : Addr} {fs : List (Str × V)} {m : Str} {D : Ends} {tu tz : TS} {sp : Sp} {dvs vs : List V} {E : XK} {t : TA} {r : R2} (h : Ev to σ H (.ref a)) (hx : H a = some (.ins C dx fs)) (hm : fs.lookup m = none) (ha : EvA t σ H vs)
    (k : ∀ H1, Ex H H1 → sp (.ref a :: (vs ++ dvs)) H1 (fun x H2 => tSeq (tIfS (tTest (tOp r (tC x) tb)) tu tNext) tz D σ H2) E) : tSeq (tIfS (tTest (tOp r (tMeth C m sp dvs E to t) tb)) tu tNext) tz D σ H := mth h hx hm ha k

theorem q_mkw {C : Addr} {E : XK} {σ : L2.St} {H : Hp} {D : Ends} {tz : TS} {i : Nat} (k : ∀ a L H', H a = none → H L = none → Ex H H' → WrAt C H' a L [] → tz D (σ.set i (some (.ref a))) H') : tSeq (tAsg (tMake C (sp_winit C) [] E tNil) (gName i)) tz D σ H := mk_w (σ := σ) (Q := fun x H' => tz D (σ.set i (some x)) H') k
theorem ev_wmany {σ : L2.St} {H : Hp} {to : TE} {E : XK} {C a L : Addr} {ms : List Bool} (h : Ev to σ H (.ref a)) (hW : WrAt C H a L ms) : Ev (tMeth C "bits_written" (sp_wmany C) [] E to tNil) σ H (.int (ms.length : Int)) := by
  obtain ⟨dx, ws, hd, n, ha, _⟩ := hW.len
  exact ev_mth h ha rfl ea_nil fun H1 e Q q _ => ⟨a, L, ms, rfl, hW.ex e, q⟩
theorem s_retMop {σ : L2.St} {H : Hp} {to tb : TE} {a C dx : Addr} {fs : List (Str × V)} {m : Str} {D : Ends} {sp : Sp} {dvs vs : List V} {E : XK} {t : TA} {r : R2} (h : Ev to σ H (.ref a)) (hx : H a = some (.ins C dx fs)) (hm : fs.lookup m = none) (ha : EvA t σ H vs)
    (k : ∀ H1, Ex H H1 → sp (.ref a :: (vs ++ dvs)) H1 (fun x H2 => tRet (tOp r (tC x) tb) D σ H2) E) : tRet (tOp r (tMeth C m sp dvs E to t) tb) D σ H := mth h hx hm ha k
/-- a, b, c = t -/
theorem q_asg3 {σ : L2.St} {H : Hp} {te : TE} {i j l : Nat} {t : Addr} {x y z : V} {D : Ends} {tz : TS} (h : Ev te σ H (.ref t)) (hT : H t = some (.tup [x, y, z])) (k : ∀ H1, Ex H H1 → tz D (((σ.set i (some x)).set j (some y)).set l (some z)) H1) :
    tSeq (tAsg te (gTup K 3 (gCons (gName i) (gCons (gName j) (gCons (gName l) gNil))))) tz D σ H := h H (Ex.refl H) _ fun H1 e1 => ⟨t, [x, y, z], rfl, st_of (e1 _ _ hT), rfl, x, [y, z], rfl, y, [z], rfl, z, [], rfl, rfl, k H1 e1⟩
theorem tlc_lstM {t1 te : TE} {vs : List Nat} {xs : List V} {j : Nat} {σ : L2.St} {H : Hp} {Q : VK} (h : EvS K t1 σ H xs)
    (k : ∀ p H1, Ex H H1 → SqL K H1 p xs → ∀ Dl, H1 Dl = none → ∃ Pv : Nat → Hp → Prop, Pv 0 (upd H1 Dl (.lst [])) ∧ (∀ (i : Nat) H', Pv i H' → SqL K H' p xs) ∧ (∀ (i : Nat) (x : V) H', xs[i]? = some x → Pv i H' → wipe ((wipe σ vs).set j (some x)) vs = wipe σ vs ∧ te ((wipe σ vs).set j (some x)) H' fun y H4 => ∃ acc, H4 Dl = some (.lst acc) ∧ acc.length < sizeLine ∧ Pv (i + 1) (upd H4 Dl (.lst (acc ++ [y])))) ∧ (∀ H', Pv xs.length H' → Q (.ref Dl) H')) :
    tLc (iList K t1) (gName j) tYes te vs σ H Q := h H (Ex.refl H) _ fun p H1 e1 hp => ⟨p, rfl, ⟨xs, hp⟩, fun Dl hD => by
  obtain ⟨Pv, h0, hl, hs, hd⟩ := k p H1 e1 hp Dl hD
  exact lc_list (xs := xs) Pv h0 (fun i H' _ p => hl i H' p) (fun i x H' hi p => hs i x H' hi p) hd⟩

/-! ### fields -/
inductive Fd where
  | u (k w v : Nat)
  | pad (w v : Nat)
  | s (w : Nat) (x : Int)
  | un (c : Nat)
  | bs (ds : List Nat)
def FOk : Fd → Prop
  | .u k w v => (k = 0 ∨ k = 1) ∧ w ≤ 64 ∧ v < 2 ^ w
  | .pad _ _ => True
  | .s w x => 1 ≤ w ∧ w ≤ 64 ∧ -((2 ^ (w - 1) : Nat) : Int) ≤ x ∧ x < ((2 ^ (w - 1) : Nat) : Int)
  | .un c => c ≤ 100
  | .bs ds => ds.length ≤ 4 ∧ ∀ d ∈ ds, d < 256
def FAt (H : Hp) (t q : Addr) : Fd → Prop
  | .u k w v => H t = some (.tup [.int (k : Int), .int (w : Int), .int (v : Int)])
  | .pad w v => H t = some (.tup [.int 4, .int (w : Int), .int (v : Int)])
  | .s w x => H t = some (.tup [.int 2, .int (w : Int), .int x])
  | .un c => H t = some (.tup [.int 3, .int 0, .int (c : Int)])
  | .bs ds => H t = some (.tup [.int 5, .int 0, .ref q]) ∧ H q = some (.lst ((cs ds).map V.int))
def fb (ms : List Bool) : Fd → List Bool
  | .u _ w v => bitsN w v
  | .pad _ _ => List.replicate (padN ms.length) false
  | .s w x => bitsN w (x % 2 ^ w).toNat
  | .un c => List.replicate c false ++ [true]
  | .bs ds => ds.flatMap bits8
def run (ms : List Bool) (fs : List Fd) : List Bool := fs.foldl (fun m f => m ++ fb m f) ms
theorem run_snoc (ms : List Bool) (fs : List Fd) (f : Fd) : run ms (fs ++ [f]) = run ms fs ++ fb (run ms fs) f := by unfold run; rw [List.foldl_append]; rfl
theorem fb_len {ms : List Bool} {f : Fd} (h : FOk f) : (fb ms f).length ≤ 110 := by
  match f, h with
  | .u k w v, h => show (bitsN w v).length ≤ _; rw [bitsN_len]; have := h.2.1; omega
  | .pad w v, _ => show (List.replicate _ false).length ≤ _; rw [List.length_replicate]; unfold padN; omega
  | .s w x, h => show (bitsN w _).length ≤ _; rw [bitsN_len]; have := h.2.1; omega
  | .un c, h => show (List.replicate c false ++ [true]).length ≤ _; rw [List.length_append, List.length_replicate]; have h : c ≤ 100 := h; show c + 1 ≤ _; omega
  | .bs ds, h => show (ds.flatMap bits8).length ≤ _; rw [bits_flat_len]; have := h.1; omega
theorem FAt.ex {H H1 : Hp} {t q : Addr} {f : Fd} (e : Ex H H1) (h : FAt H t q f) : FAt H1 t q f := by
  match f, h with
  | .u _ _ _, h => exact e _ _ h
  | .pad _ _, h => exact e _ _ h
  | .s _ _, h => exact e _ _ h
  | .un _, h => exact e _ _ h
  | .bs _, h => exact ⟨e _ _ h.1, e _ _ h.2⟩
theorem FAt.tup {H : Hp} {t q : Addr} {f : Fd} (h : FAt H t q f) : ∃ x y z, H t = some (.tup [x, y, z]) := by
  match f, h with
  | .u _ _ _, h => exact ⟨_, _, _, h⟩
  | .pad _ _, h => exact ⟨_, _, _, h⟩
  | .s _ _, h => exact ⟨_, _, _, h⟩
  | .un _, h => exact ⟨_, _, _, h⟩
  | .bs _, h => exact ⟨_, _, _, h.1⟩
/-- kept where tuples and the list at q are -/
theorem FAt.keep {H H1 : Hp} {t q : Addr} {f : Fd} (h : FAt H t q f) (h1 : ∀ p xs, H p = some (.tup xs) → H1 p = some (.tup xs)) (h2 : ∀ xs, H q = some (.lst xs) → H1 q = some (.lst xs)) : FAt H1 t q f := by
  match f, h with
  | .u _ _ _, h => exact h1 _ _ h
  | .pad _ _, h => exact h1 _ _ h
  | .s _ _, h => exact h1 _ _ h
  | .un _, h => exact h1 _ _ h
  | .bs _, h => exact ⟨h1 _ _ h.1, h2 _ h.2⟩
theorem s_ret3L {σ : L2.St} {H : Hp} {t1 t2 t3 : TE} {x y : V} {xs : List V} {D : Ends} (h1 : Ev t1 σ H x) (h2 : Ev t2 σ H y) (h3 : EvL t3 σ H xs) (k : ∀ q t H1, H q = none → Ex H H1 → H1 q = some (.lst xs) → H1 t = none → D.rt (.ref t) (upd H1 t (.tup [x, y, .ref q]))) : tRet (tTup (tCons t1 (tCons t2 (tCons t3 tNil)))) D σ H := by
  refine h1 H (Ex.refl H) _ fun H1 e1 => h2 H1 e1 _ fun H2 e2 => h3 H2 (e1.trans e2) _ fun q H3 hq e3 g3 => ⟨sz_of (Nat.le_of_ble_eq_true rfl), fun t ht => k q t H3 ?_ ((e1.trans e2).trans e3) g3 ht⟩
  cases h : H q with
  | none => rfl
  | some o => rw [(e1.trans e2) _ _ h] at hq; cases hq
def sp_field : Sp := fun vs H Q _ => ∃ c : Int, vs = [.int c] ∧ ∀ (f : Fd) t q H', H t = none → H q = none → Ex H H' → FOk f → FAt H' t q f → Q (.ref t) H'
theorem ok_law_field (T : TX K mg) : FnOk P w K mg base CX0 2 T.a_law_field T.d_law_field ["cell"] sp_field := by
  refine T.F_law_field.ok sc_law_field (fun vs H Q E h => by obtain ⟨c, rfl, _⟩ := h; rfl) (fun cdv A outer s H vs Q E hr h => ?_)
  obtain ⟨c, rfl, k⟩ := h
  refine ⟨_, (pss_cons (ps_set (i := 1) sc_law_field.nd rfl (Or.inr rfl) (pe_call (ok_law_draw T) (hr.mono (by decide)) (by rfl) T.g_law_draw T.F_law_draw.kp T.b_law_draw .nil pass0 (pa_cons (pv 0) (pa_cons pe_int (pa_cons (pe_op op_shl pe_int pe_int) pa_nil)))))
      (pss_cons (ps_set (i := 2) sc_law_field.nd rfl (Or.inl rfl) (pe_op op_mod (pe_ix (r := rIxL K) ix_list (pv 1) pe_int (fun _ _ => rfl)) pe_int))
      (pss_cons (ps_set (i := 3) sc_law_field.nd rfl (Or.inl rfl) (pe_op op_mod (pe_ix (r := rIxL K) ix_list (pv 1) pe_int (fun _ _ => rfl)) pe_int))
      (pss_cons (ps_if (pt_cmpR op_eq (pe_op op_mod (pe_op op_fdiv (pe_ix (r := rIxL K) ix_list (pv 1) pe_int (fun _ _ => rfl)) pe_int) pe_int) pe_int (nomark _)) (pss_one (ps_set (i := 3) sc_law_field.nd rfl (Or.inl rfl) (pe_op op_mod (pe_ix (r := rIxL K) ix_list (pv 1) pe_int (fun _ _ => rfl)) pe_int))) pss_nil)
      (pss_cons (ps_set (i := 4) sc_law_field.nd rfl (Or.inl rfl) (pe_op op_add (pe_op op_add (pe_op op_add (pe_ix (r := rIxL K) ix_list (pv 1) pe_int (fun _ _ => rfl)) (pe_op op_shl (pe_ix (r := rIxL K) ix_list (pv 1) pe_int (fun _ _ => rfl)) pe_int)) (pe_op op_shl (pe_ix (r := rIxL K) ix_list (pv 1) pe_int (fun _ _ => rfl)) pe_int)) (pe_op op_shl (pe_ix (r := rIxL K) ix_list (pv 1) pe_int (fun _ _ => rfl)) pe_int)))
      (pss_cons (ps_if (pt_cmpR op_eq (pv 2) pe_int (nomark _)) (pss_cons (ps_set (i := 3) sc_law_field.nd rfl (Or.inl rfl) (pe_callB (call_max2 rfl) (by rfl) T.m_max PyProof.Rows.boot_max (pa_cons pe_int (pa_cons (pv 3) pa_nil))))
        (pss_one (ps_ret (pe_tup (pa_cons (pv 2) (pa_cons (pv 3) (pa_cons (pe_op op_sub (pe_op op_mod (pe_callTy call_int1 (by rfl) T.m_int PyProof.Rows.boot_int (pa_cons (pv 4) pa_nil)) (pe_op op_shl pe_int (pv 3))) (pe_op op_shl pe_int (pe_op op_sub (pv 3) pe_int))) pa_nil))))))) pss_nil)
      (pss_cons (ps_if (pt_cmpR op_eq (pv 2) pe_int (nomark _)) (pss_one (ps_ret (pe_tup (pa_cons (pv 2) (pa_cons pe_int (pa_cons (pe_op op_mod (pe_ix (r := rIxL K) ix_list (pv 1) pe_int (fun _ _ => rfl)) pe_int) pa_nil)))))) pss_nil)
      (pss_cons (ps_if (pt_cmpR op_eq (pv 2) pe_int (nomark _)) (pss_one (ps_ret (pe_tup (pa_cons (pv 2) (pa_cons pe_int (pa_cons (pe_lc (own := [("k", 5)]) (g := gName 5) (tt := tYes) rfl sc_law_field.nd (pi_range1 (by rfl) T.m_range (pa_cons (pe_op op_mod (pe_ix (r := rIxL K) ix_list (pv 1) pe_int (fun _ _ => rfl)) pe_int) pa_nil)) (blkOk_by (N := ["cell", "numbers", "kind", "width", "value", "k"]) (sc := defScope s_law_field) (by decide +kernel)) (fun _ _ _ _ _ => pg_name (i := 5) sc_law_field.nd rfl (Or.inl rfl)) (fun _ _ _ _ _ => pts_nil) (fun _ _ _ _ _ => (pe_op op_mod (pe_ix (r := rIxL K) ix_list (pv 1) (pe_op op_add pe_int (pv 5)) (fun _ _ => rfl)) pe_int))) pa_nil)))))) pss_nil)
      (pss_one (ps_ret (pe_tup (pa_cons (pv 2) (pa_cons (pv 3) (pa_cons (pe_op op_mod (pe_callTy call_int1 (by rfl) T.m_int PyProof.Rows.boot_int (pa_cons (pv 4) pa_nil)) (pe_op op_shl pe_int (pv 3))) pa_nil)))))))))))))), ?_⟩
  refine q_asgC (vs := [.int c, .int 6, .int (1 * 2 ^ (20 : Int).toNat)]) (ea_cons (ev_var rfl) (ea_cons ev_c (ea_cons (ev_I ev_c ev_c ⟨by decide, by decide, by decide⟩) ea_nil))) fun H1 e1 => ⟨c, 6, _, rfl, by decide, by decide, by decide, by decide, fun pn us H2 hpn e2 gn hun hus => ?_⟩
  have hu := fun (i : Nat) (h : i < 6) => gl_get (ns := us) (i := i) (by omega)
  have hub := fun (i : Nat) (h : i < 6) => hus _ (List.mem_of_getElem? (hu i h))
  have hux : ∀ {σ : L2.St} {H1 : Hp} (j : Nat) (hj : j < 6), Ex H2 H1 → σ[1]? = some (some (.ref pn)) → Ev (tOp (rIxL K) (tVar 1) (tC (.int (j : Int)))) σ H1 (.int (us.getD j 0)) := fun j hj e hs => ev_at (Ev.s (ev_var hs) (sq_of (e _ _ gn))) ev_c (at_of rfl (at_int (hu j hj)))
  have b0 := hub 0 (by decide)
  have b1 := hub 1 (by decide)
  have b2' := hub 2 (by decide)
  have b3 := hub 3 (by decide)
  have b4 := hub 4 (by decide)
  have b5 := hub 5 (by decide)
  have hux0 := fun {σ : L2.St} {H1 : Hp} => hux (σ := σ) (H1 := H1) 0 (by decide)
  have hux1 := fun {σ : L2.St} {H1 : Hp} => hux (σ := σ) (H1 := H1) 1 (by decide)
  have hux2 := fun {σ : L2.St} {H1 : Hp} => hux (σ := σ) (H1 := H1) 2 (by decide)
  have hux3 := fun {σ : L2.St} {H1 : Hp} => hux (σ := σ) (H1 := H1) 3 (by decide)
  have hux4 := fun {σ : L2.St} {H1 : Hp} => hux (σ := σ) (H1 := H1) 4 (by decide)
  have hux5 := fun {σ : L2.St} {H1 : Hp} => hux (σ := σ) (H1 := H1) 5 (by decide)
  have hP20 : (1 * 2 ^ (20 : Int).toNat : Int) = 1048576 := by decide
  rw [hP20] at b0 b1 b2' b3 b4 b5
  obtain ⟨u0, hu0⟩ : ∃ x, us.getD 0 0 = x := ⟨_, rfl⟩
  obtain ⟨u1, hu1⟩ : ∃ x, us.getD 1 0 = x := ⟨_, rfl⟩
  obtain ⟨u2, hu2⟩ : ∃ x, us.getD 2 0 = x := ⟨_, rfl⟩
  obtain ⟨u3, hu3⟩ : ∃ x, us.getD 3 0 = x := ⟨_, rfl⟩
  obtain ⟨u4, hu4⟩ : ∃ x, us.getD 4 0 = x := ⟨_, rfl⟩
  obtain ⟨u5, hu5⟩ : ∃ x, us.getD 5 0 = x := ⟨_, rfl⟩
  rw [hu0] at b0 hux0
  rw [hu1] at b1 hux1
  rw [hu2] at b2' hux2
  rw [hu3] at b3 hux3
  rw [hu4] at b4 hux4
  rw [hu5] at b5 hux5
  obtain ⟨kd, hkd⟩ : ∃ j : Nat, u0 % 6 = (j : Int) := ⟨(u0 % 6).toNat, by omega⟩
  have hkd6 : kd < 6 := by omega
  refine q_asg (v := .int (kd : Int)) (Ev.is (ev_I (hux0 (Ex.refl _) rfl) ev_c (by decide)) (congrArg V.int hkd)) fun H3 e3 => ?_
  refine q_asg (v := .int (u1 % 15)) (ev_I (hux1 e3 rfl) ev_c (by decide)) fun H4 e4 => ?_
  have e34 := e3.trans e4
  obtain ⟨w1, hw1⟩ : ∃ w1 : Nat, (if decide (V.int (u0 / 6 % 3) = V.int 0) = true then u1 % 65 else u1 % 15) = (w1 : Int) := ⟨(if decide (V.int (u0 / 6 % 3) = V.int 0) = true then u1 % 65 else u1 % 15).toNat, by split <;> omega⟩
  have hw1b : w1 ≤ 64 := by split at hw1 <;> omega
  refine q_ifAsg (b := decide (V.int (u0 / 6 % 3) = V.int 0)) (v := .int (w1 : Int)) (et_test (ev_eq (ev_I (ev_I (hux0 e34 rfl) ev_c ⟨by decide, by decide⟩) ev_c (by decide)) ev_c rfl)) (fun hb => Ev.is (ev_I (hux1 e34 rfl) ev_c (by decide)) (by rw [← hw1, if_pos hb])) (fun hb => by rw [← hw1, if_neg (by rw [hb]; decide)]; rfl) fun H5 e5 => ?_
  have e35 := e34.trans e5
  obtain ⟨val, hval⟩ : ∃ val : Int, u2 + u3 * 2 ^ (20 : Int).toNat + u4 * 2 ^ (40 : Int).toNat + u5 * 2 ^ (60 : Int).toNat = val := ⟨_, rfl⟩
  refine q_asg (v := .int val) (Ev.is (ev_I0 (ev_I0 (ev_I0 (hux2 e35 rfl) (ev_I (hux3 e35 rfl) ev_c (show CPow u3 20 from ⟨by decide, by decide, by omega⟩))) (ev_I (hux4 e35 rfl) ev_c (show CPow u4 40 from ⟨by decide, by decide, by omega⟩))) (ev_I (hux5 e35 rfl) ev_c (show CPow u5 60 from ⟨by decide, by decide, by omega⟩))) (congrArg V.int hval)) fun H6 e6 => ?_
  have ex6 := (e1.trans e2).trans (e35.trans e6)
  have keq : ∀ {σ : L2.St} {H1 : Hp} (c : Nat), σ[2]? = some (some (.int (kd : Int))) → EvT (tTest (tOp rEq (tVar 2) (tC (.int (c : Int))))) σ H1 (decide (kd = c)) := fun c hs => et_test (Ev.is (ev_eq (ev_var hs) ev_c rfl) (congrArg V.bl (decide_eq_decide.mpr ⟨fun h => by have := V.int.inj h; omega, fun h => by rw [h]⟩)))
  have fresh : ∀ {q : Addr} {H1 : Hp}, Ex H H1 → H1 q = none → H q = none := fun e h => by
    cases h2 : H _ with
    | none => rfl
    | some o => rw [e _ _ h2] at h; cases h
  refine q_when (b := decide (kd = 2)) (keq 2 rfl) (fun h2 H7 e7 => ?_) (fun h2 H7 e7 => ?_)
  · have h2 := of_decide_eq_true h2
    obtain ⟨w2, hw2⟩ : ∃ w2 : Nat, (if (w1 : Int) > 1 then (w1 : Int) else 1) = (w2 : Int) := ⟨(if (w1 : Int) > 1 then (w1 : Int) else 1).toNat, by split <;> omega⟩
    have hw2b : 1 ≤ w2 ∧ w2 ≤ 64 := by split at hw2 <;> omega
    refine q_asg (v := .int (w2 : Int)) (Ev.is (ev_max2 ev_c (ev_var rfl)) (congrArg V.int hw2)) fun H8 e8 => ?_
    have hpw : 2 ^ w2 = 2 * 2 ^ (w2 - 1) := by rw [show w2 = (w2 - 1) + 1 by omega, Nat.pow_succ, Nat.mul_comm, Nat.add_sub_cancel]
    have hpos := Nat.two_pow_pos (w2 - 1)
    have hm0 := Int.emod_nonneg val (show ((2 ^ w2 : Nat) : Int) ≠ 0 by omega)
    have hm1 := Int.emod_lt_of_pos val (show (0 : Int) < ((2 ^ w2 : Nat) : Int) by omega)
    refine s_retU (xs := [.int 2, .int (w2 : Int), .int (val % ((2 ^ w2 : Nat) : Int) - ((2 ^ (w2 - 1) : Nat) : Int))]) (eu_tup (ea_cons (Ev.is (ev_var rfl) (by rw [h2]; rfl)) (ea_cons (ev_var rfl) (ea_cons (ev_I0 (ev_I (j := ((2 ^ w2 : Nat) : Int)) (ev_int1 (ev_var rfl)) (Ev.is (ev_I ev_c (ev_var rfl) (show CPow 1 (w2 : Int) from ⟨by omega, by omega, by decide⟩)) (congrArg V.int (by rw [Int.toNat_natCast, Int.one_mul, pow_cast]))) (by show (0 : Int) < _; omega)) (Ev.is (ev_I (j := ((w2 - 1 : Nat) : Int)) ev_c (Ev.is (ev_I0 (ev_var rfl) ev_c) (congrArg V.int (by omega))) (show CPow 1 ((w2 - 1 : Nat) : Int) from ⟨by omega, by omega, by decide⟩)) (congrArg V.int (by rw [Int.toNat_natCast, Int.one_mul, pow_cast])))) ea_nil))) (Nat.le_of_ble_eq_true rfl)) fun t H9 ht e9 g9 => ?_
    have ht0 := fresh ((ex6.trans e7).trans e8) ht
    exact k (.s w2 (val % ((2 ^ w2 : Nat) : Int) - ((2 ^ (w2 - 1) : Nat) : Int))) t t H9 ht0 ht0 (((ex6.trans e7).trans e8).trans e9) ⟨hw2b.1, hw2b.2, by omega, by omega⟩ g9
  have h2 := of_decide_eq_false h2
  refine q_when (b := decide (kd = 3)) (keq 3 rfl) (fun h3 H8 e8 => ?_) (fun h3 H8 e8 => ?_)
  · have h3 := of_decide_eq_true h3
    refine s_retU (xs := [.int 3, .int 0, .int ((u2 % 101).toNat : Nat)]) (eu_tup (ea_cons (Ev.is (ev_var rfl) (by rw [h3]; rfl)) (ea_cons ev_c (ea_cons (Ev.is (ev_I (hux2 ((e35.trans e6).trans (e7.trans e8)) rfl) ev_c (by decide)) (congrArg V.int (by omega))) ea_nil))) (Nat.le_of_ble_eq_true rfl)) fun t H9 ht e9 g9 => ?_
    have ht0 := fresh ((ex6.trans e7).trans e8) ht
    exact k (.un (u2 % 101).toNat) t t H9 ht0 ht0 (((ex6.trans e7).trans e8).trans e9) (by show (u2 % 101).toNat ≤ 100; omega) g9
  have h3 := of_decide_eq_false h3
  have ex8 := (ex6.trans e7).trans e8
  refine q_when (b := decide (kd = 5)) (keq 5 rfl) (fun h5 H9 e9 => ?_) (fun h5 H9 e9 => ?_)
  · have h5 := of_decide_eq_true h5
    obtain ⟨m, hm⟩ : ∃ m : Nat, u2 % 5 = (m : Int) := ⟨(u2 % 5).toNat, by omega⟩
    have hm4 : m ≤ 4 := by omega
    obtain ⟨ds, hds⟩ : ∃ ds : List Nat, ds = (List.range m).map fun i => (us.getD (1 + i) 0 % 256).toNat := ⟨_, rfl⟩
    have hdl : ds.length = m := by rw [hds, List.length_map, List.length_range]
    have hdb : ∀ d ∈ ds, d < 256 := fun d hd => by
      rw [hds] at hd
      obtain ⟨i, _, rfl⟩ := List.mem_map.mp hd
      omega
    have ee := (e35.trans e6).trans (e7.trans (e8.trans e9))
    refine s_ret3L (x := .int (kd : Int)) (y := .int 0) (xs := (cs ds).map V.int) (ev_var rfl) ev_c (el_lcR (n := (m : Int)) _ (ea_cons (Ev.is (ev_I (hux2 ee rfl) ev_c (by decide)) (congrArg V.int hm)) ea_nil) (by omega) (by rw [List.length_map, cs_len, hdl]; omega) (by rw [List.length_map, cs_len, hdl]; omega) (fun _ => rfl) fun i H10 e10 hi => by
        rw [List.length_map, cs_len, hdl] at hi
        refine ⟨_, at_int (cs_at (d := (us.getD (1 + i) 0 % 256).toNat) (by rw [hds, List.getElem?_map, List.getElem?_range hi]; rfl)), Ev.is (ev_I (ev_at (Ev.s (ev_var rfl) (sq_of ((ee.trans e10) _ _ gn))) (ev_I0 ev_c (ev_var rfl)) (at_of (j := 1 + i) (by omega) (at_int (hu (1 + i) (by omega))))) ev_c (by decide)) (congrArg V.int (by omega))⟩) fun q t H10 hq e10 g10 ht => ?_
    have ht0 := fresh (ex8.trans (e9.trans e10)) ht
    refine k (.bs ds) t q _ ht0 (fresh (ex8.trans e9) hq) ((ex8.trans (e9.trans e10)).trans (Ex.new ht)) ⟨by omega, hdb⟩ ⟨?_, Ex.new ht _ _ g10⟩
    rw [upd_same, h5]
    rfl
  have h5 := of_decide_eq_false h5
  have hpos := Nat.two_pow_pos w1
  have hm0 := Int.emod_nonneg val (show ((2 ^ w1 : Nat) : Int) ≠ 0 by omega)
  have hm1 := Int.emod_lt_of_pos val (show (0 : Int) < ((2 ^ w1 : Nat) : Int) by omega)
  obtain ⟨v, hv⟩ : ∃ v : Nat, val % ((2 ^ w1 : Nat) : Int) = (v : Int) := ⟨(val % ((2 ^ w1 : Nat) : Int)).toNat, by omega⟩
  refine s_retU (xs := [.int (kd : Int), .int (w1 : Int), .int (v : Int)]) (eu_tup (ea_cons (ev_var rfl) (ea_cons (ev_var rfl) (ea_cons (Ev.is (ev_I (j := ((2 ^ w1 : Nat) : Int)) (ev_int1 (ev_var rfl)) (Ev.is (ev_I ev_c (ev_var rfl) (show CPow 1 (w1 : Int) from ⟨by omega, by omega, by decide⟩)) (congrArg V.int (by rw [Int.toNat_natCast, Int.one_mul, pow_cast]))) (by show (0 : Int) < _; omega)) (congrArg V.int hv)) ea_nil))) (Nat.le_of_ble_eq_true rfl)) fun t H10 ht e10 g10 => ?_
  have ht0 := fresh (ex8.trans e9) ht
  by_cases h4 : kd = 4
  · exact k (.pad w1 v) t t H10 ht0 ht0 ((ex8.trans e9).trans e10) trivial (by show _ = some (HO.tup [.int 4, .int (w1 : Int), .int (v : Int)]); rw [g10, h4]; rfl)
  · exact k (.u kd w1 v) t t H10 ht0 ht0 ((ex8.trans e9).trans e10) ⟨by omega, hw1b, by omega⟩ g10

theorem sgN_mod {w : Nat} {x : Int} (hw : 1 ≤ w) (h1 : -((2 ^ (w - 1) : Nat) : Int) ≤ x) (h2 : x < ((2 ^ (w - 1) : Nat) : Int)) : sgN w (x % 2 ^ w).toNat = x := by
  have hp : 2 ^ w = 2 * 2 ^ (w - 1) := by rw [show w = (w - 1) + 1 by omega, Nat.pow_succ, Nat.mul_comm, Nat.add_sub_cancel]
  rw [pow_cast]
  unfold sgN
  have hpos := Nat.two_pow_pos (w - 1)
  generalize 2 ^ (w - 1) = q at *
  rw [hp]
  by_cases hx : 0 ≤ x
  · have e : x % ((2 * q : Nat) : Int) = x := Int.emod_eq_of_lt hx (by omega)
    rw [e, if_pos (by omega)]
    omega
  · have e : x % ((2 * q : Nat) : Int) = x + ((2 * q : Nat) : Int) := by
      rw [← Int.add_emod_right, Int.emod_eq_of_lt (by omega) (by omega)]
    rw [e, if_neg (by omega)]
    omega
theorem at_mid {B pre m post : List Bool} (h : B = pre ++ (m ++ post)) {i : Nat} (hi : i < m.length) : B[pre.length + i]? = m[i]? := by
  rw [h, List.getElem?_append_right (by omega), show pre.length + i - pre.length = i by omega, List.getElem?_append_left hi]
theorem take_mid {B pre m post : List Bool} (h : B = pre ++ (m ++ post)) : (B.drop pre.length).take m.length = m := by
  rw [h, List.drop_left, List.take_left]
theorem fld_mid {B pre post : List Bool} {w v : Nat} (h : B = pre ++ (bitsN w v ++ post)) : valL ((B.drop pre.length).take w) = v % 2 ^ w := by
  have := take_mid h
  rw [bitsN_len] at this
  rw [this, valL_bitsN]
theorem run_mid {B pre post : List Bool} {c : Nat} (h : B = pre ++ ((List.replicate c false ++ [true]) ++ post)) : zrun B pre.length c := by
  refine ⟨fun i hi => ?_, ?_⟩
  · rw [at_mid h (by rw [List.length_append, List.length_replicate]; omega), List.getElem?_append_left (by rw [List.length_replicate]; exact hi), List.getElem?_replicate, if_pos hi]
  · rw [at_mid h (by rw [List.length_append, List.length_replicate]; show c < c + 1; omega), List.getElem?_append_right (by rw [List.length_replicate]; omega), List.length_replicate, Nat.sub_self]
    rfl
theorem valL_rep : ∀ n, valL (List.replicate n false) = 0
  | 0 => rfl
  | n + 1 => by rw [show List.replicate (n + 1) false = List.replicate n false ++ [false] from List.replicate_succ', valL_snoc, valL_rep n]; rfl
theorem pad_mid {ds : List Nat} (hd : ∀ d ∈ ds, d < 256) {pre post : List Bool} (h : ds.flatMap bits8 = pre ++ (List.replicate (padN pre.length) false ++ post)) : (pre.length % 8 = 0 ∨ restN ds pre.length = 0) ∧ upTo8 pre.length = pre.length + padN pre.length := by
  refine ⟨?_, by unfold upTo8 padN; omega⟩
  by_cases h8 : pre.length % 8 = 0
  · exact .inl h8
  · have hl := congrArg List.length h
    rw [bits_flat_len, List.length_append] at hl
    have hp : padN pre.length = 8 - pre.length % 8 := by unfold padN; omega
    have := take_mid h
    rw [List.length_replicate, hp] at this
    have hv := valL_rest hd (pos := pre.length) (by omega)
    rw [this, valL_rep] at hv
    exact .inr (by unfold restN; exact hv.symm)
theorem bytes_mid {ds es : List Nat} (he : ∀ d ∈ es, d < 256) {pre post : List Bool} (h : ds.flatMap bits8 = pre ++ (es.flatMap bits8 ++ post)) : bytesAt ds pre.length es.length = es := by
  refine List.ext_getElem? fun i => ?_
  by_cases hi : i < es.length
  · rw [bytesAt_get hi]
    have hc := chunk es i hi
    have hm := take_mid h
    rw [bits_flat_len] at hm
    rw [← List.drop_drop]
    have : (((ds.flatMap bits8).drop pre.length).drop (8 * i)).take 8 = ((es.flatMap bits8).drop (8 * i)).take 8 := by
      conv => rhs; rw [← hm]
      rw [List.drop_take, List.take_take, Nat.min_eq_left (by omega)]
    have hv : valL (bits8 (es.getD i 0)) = es.getD i 0 := valL_8 _ (by rw [List.getD_eq_getElem?_getD, List.getElem?_eq_getElem hi]; exact he _ (List.getElem_mem hi))
    rw [this, hc, hv, List.getD_eq_getElem?_getD, List.getElem?_eq_getElem hi]
    rfl
  · rw [List.getElem?_eq_none (by rw [bytesAt_len]; omega), List.getElem?_eq_none (by omega)]
theorem s_dropML {σ : L2.St} {H : Hp} {to tl : TE} {a C dx : Addr} {fs : List (Str × V)} {m : Str} {D : Ends} {sp : Sp} {dvs xs : List V} {E : XK} (h : Ev to σ H (.ref a)) (hx : H a = some (.ins C dx fs)) (hm : fs.lookup m = none) (hl : EvL tl σ H xs)
    (k : ∀ p H1, H p = none → Ex H H1 → H1 p = some (.lst xs) → sp (.ref a :: ([.ref p] ++ dvs)) H1 (fun _ H2 => D.nx σ H2) E) : tDrop (tMeth C m sp dvs E to (tCons tl tNil)) D σ H := by
  refine h H (Ex.refl H) _ fun H1 e1 => ⟨a, dx, fs, rfl, e1 _ _ hx, hm, hl H1 e1 _ fun p H2 hp e2 g2 => k p H2 ?_ (e1.trans e2) g2⟩
  cases hc : H p with
  | none => rfl
  | some o => rw [e1 _ _ hc] at hp; cases hp
theorem q_dropML {σ : L2.St} {H : Hp} {to tl : TE} {a C dx : Addr} {fs : List (Str × V)} {m : Str} {D : Ends} {tz : TS} {sp : Sp} {dvs xs : List V} {E : XK} (h : Ev to σ H (.ref a)) (hx : H a = some (.ins C dx fs)) (hm : fs.lookup m = none) (hl : EvL tl σ H xs)
    (k : ∀ p H1, H p = none → Ex H H1 → H1 p = some (.lst xs) → sp (.ref a :: ([.ref p] ++ dvs)) H1 (fun _ H2 => tz D σ H2) E) : tSeq (tDrop (tMeth C m sp dvs E to (tCons tl tNil))) tz D σ H := s_dropML (D := { D with nx := tz D }) h hx hm hl k
theorem q_dropMX {σ : L2.St} {H : Hp} {to : TE} {a C dx : Addr} {fs : List (Str × V)} {m : Str} {D : Ends} {tz : TS} {sp : Sp} {dvs vs : List V} {E : L2.St → XK} {t : TA} (h : Ev to σ H (.ref a)) (hx : H a = some (.ins C dx fs)) (hm : fs.lookup m = none) (ha : EvA t σ H vs)
    (k : ∀ H1, Ex H H1 → sp (.ref a :: (vs ++ dvs)) H1 (fun _ H2 => tz D σ H2) (E σ)) : tSeq (tDrop (tMethX C m sp dvs E to t)) tz D σ H := mthX h hx hm ha k
theorem s_whenMopO {σ : L2.St} {H : Hp} {to tb : TE} {a C dx : Addr} {fs : List (Str × V)} {m : Str} {D : Ends} {tu tw : TS} {u : TT} {sp : Sp} {dvs vs : List V} {E : XK} {t : TA} {r : R2} (h : Ev to σ H (.ref a)) (hx : H a = some (.ins C dx fs)) (hm : fs.lookup m = none) (ha : EvA t σ H vs)
    (k : ∀ H1, Ex H H1 → sp (.ref a :: (vs ++ dvs)) H1 (fun x H2 => tIfS (tOr (tTest (tOp r (tC x) tb)) u) tu tw D σ H2) E) : tIfS (tOr (tTest (tOp r (tMeth C m sp dvs E to t) tb)) u) tu tw D σ H := mth h hx hm ha k
theorem s_whenNCall {σ : L2.St} {H : Hp} {sp : Sp} {dvs vs : List V} {E : XK} {t : TA} {D : Ends} {tu tw : TS} (h : EvA t σ H vs) (k : ∀ H1, Ex H H1 → sp (vs ++ dvs) H1 (fun x H2 => tIfS (tNot (tB (tC x))) tu tw D σ H2) E) : tIfS (tNot (tB (tCall sp dvs E t))) tu tw D σ H := h H (Ex.refl H) _ fun H1 e => k H1 e
theorem s_dropC {σ : L2.St} {H : Hp} {sp : Sp} {dvs vs : List V} {E : XK} {t : TA} {D : Ends} (h : EvA t σ H vs) (k : ∀ H1, Ex H H1 → sp (vs ++ dvs) H1 (fun _ H2 => D.nx σ H2) E) : tDrop (tCall sp dvs E t) D σ H := h H (Ex.refl H) _ fun H1 e => k H1 e
theorem s_retAndC {σ : L2.St} {H : Hp} {ta : TE} {sp : Sp} {dvs vs : List V} {E : XK} {t : TA} {D : Ends} (h1 : Ev ta σ H (.bl true)) (h : EvA t σ H vs) (k : ∀ H1, Ex H H1 → sp (vs ++ dvs) H1 D.rt E) : tRet (tAndV ta (tCall sp dvs E t)) D σ H := h1 H (Ex.refl H) _ fun H1 e => ⟨true, rfl, h H1 e _ fun H2 e2 => k H2 (e.trans e2)⟩
theorem zr_one {B : List Bool} {p y z : Nat} (h : zrun B p y) (g : zrun B p z) : y = z := by
  rcases Nat.lt_trichotomy y z with l | l | l
  · have := g.1 y l
    rw [h.2] at this
    cases this
  · exact l
  · have := h.1 z l
    rw [g.2] at this
    cases this
def sp_lwrite (C : Addr) : Sp := fun vs H Q _ => ∃ (a L t q : Addr) (ms : List Bool) (f : Fd), vs = [.ref a, .ref t] ∧ WrAt C H a L ms ∧ FAt H t q f ∧ FOk f ∧ q ≠ L ∧ ms.length ≤ 200000 ∧ ∀ H', Fr a L H H' → WrAt C H' a L (ms ++ fb ms f) → Q .non H'
theorem c_hit {σ : L2.St} {H : Hp} {i : Nat} {c : Int} {tu tw : TS} {D : Ends} (hs : σ[i]? = some (some (.int c))) (k : ∀ H1, Ex H H1 → tu D σ H1) : tIfS (tTest (tOp rEq (tVar i) (tC (.int c)))) tu tw D σ H :=
  s_if (b := true) (et_test (Ev.is (ev_eq (ev_var hs) ev_c rfl) (congrArg V.bl (decide_eq_true rfl)))) (fun _ => k) (fun h => by cases h)
theorem c_miss {σ : L2.St} {H : Hp} {i : Nat} {c k : Int} {tu tw : TS} {D : Ends} (hs : σ[i]? = some (some (.int k))) (hn : k ≠ c) (h : ∀ H1, Ex H H1 → tw D σ H1) : tIfS (tTest (tOp rEq (tVar i) (tC (.int c)))) tu tw D σ H :=
  s_if (b := false) (et_test (Ev.is (ev_eq (ev_var hs) ev_c rfl) (congrArg V.bl (decide_eq_false fun z => hn (V.int.inj z))))) (fun h => by cases h) (fun _ => h)
theorem q_hit {σ : L2.St} {H : Hp} {i : Nat} {c : Int} {tu tz : TS} {D : Ends} (hs : σ[i]? = some (some (.int c))) (k : ∀ H1, Ex H H1 → tu { D with nx := tz D } σ H1) : tSeq (tIfS (tTest (tOp rEq (tVar i) (tC (.int c)))) tu tNext) tz D σ H := c_hit (D := { D with nx := tz D }) hs k
theorem q_miss {σ : L2.St} {H : Hp} {i : Nat} {c k : Int} {tu tz : TS} {D : Ends} (hs : σ[i]? = some (some (.int k))) (hn : k ≠ c) (h : ∀ H1, Ex H H1 → tz D σ H1) : tSeq (tIfS (tTest (tOp rEq (tVar i) (tC (.int c)))) tu tNext) tz D σ H := c_miss (D := { D with nx := tz D }) hs hn h
theorem ok_law_write (T : TX K mg) : FnOk P w K mg base CX0 3 T.a_law_write T.d_law_write ["writer", "field"] (sp_lwrite T.C_BitWriter) := by
  refine T.F_law_write.ok sc_law_write (fun vs H Q E h => by obtain ⟨a, L, t, q, ms, f, rfl, _⟩ := h; rfl) (fun cdv A outer s H vs Q E hr h => ?_)
  obtain ⟨a, L, t, q, ms, f, rfl, hW, hT, hf, hqL, hl, k⟩ := h
  refine ⟨_, (pss_cons (ps_asg (pv 1) (pg_tup rfl (pgs_cons (pg_name (i := 2) sc_law_write.nd rfl (Or.inl rfl)) (pgs_cons (pg_name (i := 3) sc_law_write.nd rfl (Or.inl rfl)) (pgs_cons (pg_name (i := 4) sc_law_write.nd rfl (Or.inl rfl)) pgs_nil)))))
      (pss_one (ps_if (pt_cmpR op_eq (pv 2) pe_int (nomark _)) (pss_one (ps_expr (pe_meth (pv 0) T.cl_BitWriter T.me_BitWriter_write_signed (ok_BitWriter_write_signed T) (hr.mono (by decide)) T.b_BitWriter_write_signed .nil pass0 (pa_cons (pv 3) (pa_cons (pv 4) pa_nil))))) (pss_one (ps_if (pt_cmpR op_eq (pv 2) pe_int (nomark _)) (pss_one (ps_expr (pe_meth (pv 0) T.cl_BitWriter T.me_BitWriter_write_unary (ok_BitWriter_write_unary T) (hr.mono (by decide)) T.b_BitWriter_write_unary .nil pass0 (pa_cons (pv 4) pa_nil)))) (pss_one (ps_if (pt_cmpR op_eq (pv 2) pe_int (nomark _)) (pss_one (ps_expr (pe_meth0 (pv 0) T.cl_BitWriter T.me_BitWriter_pad (ok_BitWriter_pad T) (hr.mono (by decide)) T.b_BitWriter_pad .nil pass0))) (pss_one (ps_if (pt_cmpR op_eq (pv 2) pe_int (nomark _)) (pss_one (ps_expr (pe_meth (pv 0) T.cl_BitWriter T.me_BitWriter_append_bytes (ok_BitWriter_append_bytes T) (hr.mono (by decide)) T.b_BitWriter_append_bytes .nil pass0 (pa_cons (pe_callTy (r := rListS K) call_list_of (by rfl) T.m_list PyProof.Rows.boot_list (pa_cons (pv 4) pa_nil)) pa_nil)))) (pss_one (ps_expr (pe_meth (pv 0) T.cl_BitWriter T.me_BitWriter_write (ok_BitWriter_write T) (hr.mono (by decide)) T.b_BitWriter_write .nil pass0 (pa_cons (pv 3) (pa_cons (pv 4) pa_nil)))))))))))))), ?_⟩
  obtain ⟨dx, ws, hd, n, ha, hL, _⟩ := id hW
  have kk : ∀ {H1 H2 : Hp} (x : V), Ex H H1 → Fr a L H1 H2 → WrAt T.C_BitWriter H2 a L (ms ++ fb ms f) → Q .non H2 := fun x e1 hF h2 => k _ ((Fr.ex e1).trans hF) h2
  match f, hT, hf with
  | .s w x, hT, hf =>
    refine q_asg3 (ev_var rfl) hT fun H1 e1 => ?_
    refine c_hit rfl fun H2 e2 => ?_
    have e12 := e1.trans e2
    exact s_dropM (vs := [.int (w : Int), .int x]) (ev_var rfl) (e12 _ _ ha) rfl (ea_cons (ev_var rfl) (ea_cons (ev_var rfl) ea_nil)) fun H3 e3 => ⟨a, L, ms, w, x, rfl, hW.ex (e12.trans e3), by have := hf.2.1; omega, by have := hf.2.1; omega, fun H4 hF h4 => kk .non (e12.trans e3) hF h4⟩
  | .un c, hT, hf =>
    have hf : c ≤ 100 := hf
    refine q_asg3 (ev_var rfl) hT fun H1 e1 => ?_
    refine c_miss rfl (by decide) fun H2 e2 => c_hit rfl fun H3 e3 => ?_
    have e12 := (e1.trans e2).trans e3
    exact s_dropM (vs := [.int (c : Int)]) (ev_var rfl) (e12 _ _ ha) rfl (ea_cons (ev_var rfl) ea_nil) fun H3 e3 => ⟨a, L, ms, c, rfl, hW.ex (e12.trans e3), by omega, fun H4 hF h4 => kk .non (e12.trans e3) hF h4⟩
  | .pad w v, hT, hf =>
    refine q_asg3 (ev_var rfl) hT fun H1 e1 => ?_
    refine c_miss rfl (by decide) fun H2 e2 => c_miss rfl (by decide) fun H3 e3 => c_hit rfl fun H4 e4 => ?_
    have e12 := ((e1.trans e2).trans e3).trans e4
    exact s_dropM (vs := []) (ev_var rfl) (e12 _ _ ha) rfl ea_nil fun H3 e3 => ⟨a, L, ms, rfl, hW.ex (e12.trans e3), by omega, fun H4 hF h4 => kk .non (e12.trans e3) hF h4⟩
  | .bs ds, hT, hf =>
    refine q_asg3 (ev_var rfl) hT.1 fun H1 e1 => ?_
    refine c_miss rfl (by decide) fun H2 e2 => c_miss rfl (by decide) fun H3 e3 => c_miss rfl (by decide) fun H4 e4 => c_hit rfl fun H5 e5 => ?_
    have e12 := ((e1.trans e2).trans e3).trans (e4.trans e5)
    refine s_dropML (ev_var rfl) (e12 _ _ ha) rfl (el_of (Ev.s (ev_var rfl) (sq_of (e12 _ _ hT.2)))) fun p H6 hp e6 g6 => ⟨a, L, p, ms, ds, rfl, hW.ex (e12.trans e6), g6, (fresh_ne hp (e12 _ _ hL)).symm, hf.2, by have := hf.1; omega, fun H7 hF h7 => kk .non (e12.trans e6) hF h7⟩
  | .u kd w v, hT, hf =>
    refine q_asg3 (ev_var rfl) hT fun H1 e1 => ?_
    have hk := hf.1
    refine c_miss rfl (by omega) fun H2 e2 => c_miss rfl (by omega) fun H3 e3 => c_miss rfl (by omega) fun H4 e4 => c_miss rfl (by omega) fun H5 e5 => ?_
    have e12 := ((e1.trans e2).trans e3).trans (e4.trans e5)
    exact s_dropM (vs := [.int (w : Int), .int (v : Int)]) (ev_var rfl) (e12 _ _ ha) rfl (ea_cons (ev_var rfl) (ea_cons (ev_var rfl) ea_nil)) fun H3 e3 => ⟨a, L, ms, w, v, rfl, hW.ex (e12.trans e3), by have := hf.2.1; omega, by have := hf.2.1; omega, fun H4 hF h4 => kk .non (e12.trans e3) hF (by rw [self_mod hf.2.2] at h4; exact h4)⟩
def sp_lread (C : Addr) : Sp := fun vs H Q _ => ∃ (a d t q : Addr) (ds : List Nat) (pre post : List Bool) (f : Fd), vs = [.ref a, .ref t] ∧ RdAt C H a d pre.length ∧ H d = some (.lst ((cs ds).map V.int)) ∧ (∀ b ∈ ds, b < 256) ∧ ds.length ≤ 5000 ∧ FAt H t q f ∧ FOk f ∧ ds.flatMap bits8 = pre ++ (fb pre f ++ post) ∧ ∀ H', FrA a H H' → RdAt C H' a d (pre ++ fb pre f).length → Q (.bl true) H'
theorem ok_law_read (T : TX K mg) : FnOk P w K mg base CX0 5 T.a_law_read T.d_law_read ["reader", "field"] (sp_lread T.C_BitReader) := by
  refine T.F_law_read.ok sc_law_read (fun vs H Q E h => by obtain ⟨a, d, t, q, ds, pre, post, f, rfl, _⟩ := h; rfl) (fun cdv A outer s H vs Q E hr h => ?_)
  obtain ⟨a, d, t, q, ds, pre, post, f, rfl, hR, hd, hds, hl, hT, hf, hB, k⟩ := h
  refine ⟨_, (pss_cons (ps_asg (pv 1) (pg_tup rfl (pgs_cons (pg_name (i := 2) sc_law_read.nd rfl (Or.inl rfl)) (pgs_cons (pg_name (i := 3) sc_law_read.nd rfl (Or.inl rfl)) (pgs_cons (pg_name (i := 4) sc_law_read.nd rfl (Or.inl rfl)) pgs_nil)))))
      (pss_cons (ps_if (pt_cmpR op_eq (pv 2) pe_int (nomark _)) (pss_one (ps_ret (pe_cmpR op_eq (pe_meth (pv 0) T.cl_BitReader T.me_BitReader_read_signed (ok_BitReader_read_signed T) (hr.mono (by decide)) T.b_BitReader_read_signed .nil passN (pa_cons (pv 3) pa_nil)) (pv 4) (nomark _)))) pss_nil)
      (pss_cons (ps_if (pt_cmpR op_eq (pv 2) pe_int (nomark _)) (pss_one (ps_ret (pe_cmpR op_eq (pe_meth0 (pv 0) T.cl_BitReader T.me_BitReader_read_unary (ok_BitReader_read_unary T) (hr.mono (by decide)) T.b_BitReader_read_unary .nil passN) (pv 4) (nomark _)))) pss_nil)
      (pss_cons (ps_if (pt_cmpR op_eq (pv 2) pe_int (nomark _)) (pss_one (ps_ret (pe_cmpR op_isN1 (pe_meth0 (pv 0) T.cl_BitReader T.me_BitReader_skip_padding (ok_BitReader_skip_padding T) (hr.mono (by decide)) T.b_BitReader_skip_padding .nil passN) pe_non (nomark _)))) pss_nil)
      (pss_cons (ps_if (pt_cmpR op_eq (pv 2) pe_int (nomark _)) (pss_one (ps_ret (pe_cmpR (op_eqD (hu64 hr)) (pe_meth (pv 0) T.cl_BitReader T.me_BitReader_read_bytes (ok_BitReader_read_bytes T) (hr.mono (by decide)) T.b_BitReader_read_bytes .nil passN (pa_cons (pe_callB (r := rLenS K) call_len_seq (by rfl) T.m_len PySem.boot_len (pa_cons (pv 4) pa_nil)) pa_nil)) (pv 4) (nomark _)))) pss_nil)
      (pss_one (ps_ret (pe_cmpR op_eq (pe_meth (pv 0) T.cl_BitReader T.me_BitReader_read (ok_BitReader_read T) (hr.mono (by decide)) T.b_BitReader_read .nil passN (pa_cons (pv 3) pa_nil)) (pv 4) (nomark _))))))))), ?_⟩
  obtain ⟨dx, ha⟩ := id hR
  have hlen : 8 * ds.length = pre.length + ((fb pre f).length + post.length) := by
    have := congrArg List.length hB
    rwa [bits_flat_len, List.length_append, List.length_append] at this
  have kk : ∀ {H1 H2 : Hp} {n : Nat}, Ex H H1 → FrA a H1 H2 → RdAt T.C_BitReader H2 a d n → n = pre.length + (fb pre f).length → ∀ H3, Ex H2 H3 → Q (.bl true) H3 := fun e1 hF h2 hn H3 e3 => k _ (((FrA.ex e1).trans hF).trans (FrA.ex e3)) (by rw [List.length_append, ← hn]; exact h2.ex e3)
  match f, hT, hf with
  | .s w x, hT, hf =>
    have hB : ds.flatMap bits8 = pre ++ (bitsN w (x % 2 ^ w).toNat ++ post) := hB
    have hlen : 8 * ds.length = pre.length + ((bitsN w (x % 2 ^ w).toNat).length + post.length) := hlen
    rw [bitsN_len] at hlen
    refine q_asg3 (ev_var rfl) hT fun H1 e1 => q_hit rfl fun H2 e2 => ?_
    have e12 := e1.trans e2
    refine s_retMop (vs := [.int (w : Int)]) (ev_var rfl) (e12 _ _ ha) rfl (ea_cons (ev_var rfl) ea_nil) fun H3 e3 => ⟨a, d, ds, pre.length, w, rfl, hR.ex (e12.trans e3), (e12.trans e3) _ _ hd, hds, hf.2.1, by omega, fun _ H4 hF hR4 => ?_, fun hlt => by omega⟩
    have hv := fld_mid hB
    have hmod : (x % 2 ^ w).toNat % 2 ^ w = (x % 2 ^ w).toNat := Nat.mod_eq_of_lt (by
      have hp := Nat.two_pow_pos w
      have := Int.emod_lt_of_pos x (show (0 : Int) < 2 ^ w by rw [pow_cast]; omega)
      rw [pow_cast] at this ⊢
      have h0 := Int.emod_nonneg x (show ((2 ^ w : Nat) : Int) ≠ 0 by omega)
      omega)
    rw [hv, hmod, sgN_mod hf.1 hf.2.2.1 hf.2.2.2]
    exact s_ret (v := .bl true) (Ev.is (ev_eq ev_c (ev_var rfl) rfl) (congrArg V.bl (decide_eq_true rfl))) (kk (e12.trans e3) hF hR4 (by show _ = _ + (bitsN w _).length; rw [bitsN_len]))
  | .un c, hT, hf =>
    have hB : ds.flatMap bits8 = pre ++ ((List.replicate c false ++ [true]) ++ post) := hB
    have hz := run_mid hB
    refine q_asg3 (ev_var rfl) hT fun H1 e1 => q_miss rfl (by decide) fun H2 e2 => q_hit rfl fun H3 e3 => ?_
    have e12 := (e1.trans e2).trans e3
    have hfl : (fb pre (.un c)).length = c + 1 := by show (List.replicate c false ++ [true]).length = _; rw [List.length_append, List.length_replicate]; rfl
    refine s_retMop (vs := []) (ev_var rfl) (e12 _ _ ha) rfl ea_nil fun H3 e3 => ⟨a, d, ds, pre.length, rfl, hR.ex (e12.trans e3), (e12.trans e3) _ _ hd, hds, by omega, fun z hz2 H4 hF hR4 => ?_, fun hno => absurd hz.2 (hno c)⟩
    have hzc := zr_one hz2 hz
    subst hzc
    exact s_ret (v := .bl true) (Ev.is (ev_eq ev_c (ev_var rfl) rfl) (congrArg V.bl (decide_eq_true rfl))) (kk (e12.trans e3) hF hR4 (by rw [hfl]; omega))
  | .pad w v, hT, hf =>
    have hB : ds.flatMap bits8 = pre ++ (List.replicate (padN pre.length) false ++ post) := hB
    obtain ⟨hp1, hp2⟩ := pad_mid hds hB
    refine q_asg3 (ev_var rfl) hT fun H1 e1 => q_miss rfl (by decide) fun H2 e2 => q_miss rfl (by decide) fun H3 e3 => q_hit rfl fun H4 e4 => ?_
    have e12 := ((e1.trans e2).trans e3).trans e4
    refine s_retMop (vs := []) (ev_var rfl) (e12 _ _ ha) rfl ea_nil fun H3 e3 => ⟨a, d, ds, pre.length, rfl, hR.ex (e12.trans e3), (e12.trans e3) _ _ hd, by omega, fun _ H4 hF hR4 => ?_, fun hno => absurd hp1 hno⟩
    exact s_ret (v := .bl true) (Ev.is (ev_isN ev_c) (congrArg V.bl (decide_eq_true rfl))) (kk (e12.trans e3) hF hR4 (by rw [hp2]; show _ = _ + (List.replicate _ false).length; rw [List.length_replicate]))
  | .bs es, hT, hf =>
    have hB : ds.flatMap bits8 = pre ++ (es.flatMap bits8 ++ post) := hB
    have hfl : (fb pre (.bs es)).length = 8 * es.length := bits_flat_len es
    have hb := bytes_mid hf.2 hB
    refine q_asg3 (ev_var rfl) hT.1 fun H1 e1 => q_miss rfl (by decide) fun H2 e2 => q_miss rfl (by decide) fun H3 e3 => q_miss rfl (by decide) fun H4 e4 => q_hit rfl fun H5 e5 => ?_
    have e12 := ((e1.trans e2).trans e3).trans (e4.trans e5)
    refine s_retMop (vs := [.int (es.length : Int)]) (ev_var rfl) (e12 _ _ ha) rfl (ea_cons (Ev.is (ev_lenS (Ev.s (ev_var rfl) (sq_of (e12 _ _ hT.2)))) (by rw [List.length_map, cs_len])) ea_nil) fun H3 e3 => ⟨a, d, ds, pre.length, es.length, rfl, hR.ex (e12.trans e3), (e12.trans e3) _ _ hd, hds, by omega, by have := hf.1; omega, fun _ p H4 hp hF hR4 g4 => ?_, fun hlt => by omega⟩
    rw [hb] at g4
    have hR3 := hR.ex (e12.trans e3)
    have gq := hF _ _ (hR3.ne ((e12.trans e3) _ _ hT.2)) ((e12.trans e3) _ _ hT.2)
    exact s_ret (v := .bl true) (Ev.is (ev_eqI (Ev.s ev_c (sq_of g4)) (Ev.s (ev_var rfl) (sq_of gq))) (congrArg V.bl (decide_eq_true rfl))) (kk (e12.trans e3) hF hR4 (by rw [hfl]))
  | .u kd w v, hT, hf =>
    have hB : ds.flatMap bits8 = pre ++ (bitsN w v ++ post) := hB
    have hfl : (fb pre (.u kd w v)).length = w := bitsN_len w v
    have hk := hf.1
    refine q_asg3 (ev_var rfl) hT fun H1 e1 => q_miss rfl (by omega) fun H2 e2 => q_miss rfl (by omega) fun H3 e3 => q_miss rfl (by omega) fun H4 e4 => q_miss rfl (by omega) fun H5 e5 => ?_
    have e12 := ((e1.trans e2).trans e3).trans (e4.trans e5)
    refine s_retMop (vs := [.int (w : Int)]) (ev_var rfl) (e12 _ _ ha) rfl (ea_cons (ev_var rfl) ea_nil) fun H3 e3 => ⟨a, d, ds, pre.length, w, rfl, hR.ex (e12.trans e3), (e12.trans e3) _ _ hd, hds, hf.2.1, by omega, fun _ H4 hF hR4 => ?_, fun hlt => by omega⟩
    rw [fld_mid hB, Nat.mod_eq_of_lt hf.2.2]
    exact s_ret (v := .bl true) (Ev.is (ev_eq ev_c (ev_var rfl) rfl) (congrArg V.bl (decide_eq_true rfl))) (kk (e12.trans e3) hF hR4 (by rw [hfl]))
def sp_lends (C : Addr) : Sp := fun vs H Q _ => ∃ (a d : Addr) (ds : List Nat) (pos : Nat), vs = [.ref a, .int (ds.length : Int)] ∧ RdAt C H a d pos ∧ H d = some (.lst ((cs ds).map V.int)) ∧ (∀ b ∈ ds, b < 256) ∧ ds.length ≤ 5000 ∧ pos ≤ 8 * ds.length ∧ 8 * ds.length < pos + 8 ∧ (∀ i, pos ≤ i → i < 8 * ds.length → (ds.flatMap bits8)[i]? = some false) ∧ ∀ H', Q (.bl true) H'
theorem ok_law_ends (T : TX K mg) : FnOk P w K mg base CX0 4 T.a_law_ends T.d_law_ends ["reader", "size"] (sp_lends T.C_BitReader) := by
  refine T.F_law_ends.ok sc_law_ends (fun vs H Q E h => by obtain ⟨a, d, ds, pos, rfl, _⟩ := h; rfl) (fun cdv A outer s H vs Q E hr h => ?_)
  obtain ⟨a, d, ds, pos, rfl, hR, hd, hds, hl, hp1, hp2, hz, k⟩ := h
  refine ⟨_, (pss_cons (ps_set (i := 2) sc_law_ends.nd rfl (Or.inl rfl) (pe_meth0 (pv 0) T.cl_BitReader T.me_BitReader_bit_place (ok_BitReader_bit_place T) (hr.mono (by decide)) T.b_BitReader_bit_place .nil pass0))
      (pss_cons (ps_if (PW.pt (pw_or (pt_cmpR op_gt (pv 2) (pe_op op_mul pe_int (pv 1)) (nomark _)) (pw_or1 (pt_cmpR op_le (pe_op op_add (pv 2) pe_int) (pe_op op_mul pe_int (pv 1)) (nomark _))))) (pss_one (ps_ret pe_bl)) pss_nil)
      (pss_cons (ps_for PassesOwn.never rfl (pi_range1 (by rfl) T.m_range (pa_cons (pe_op op_sub (pe_op op_mul pe_int (pv 1)) (pv 2)) pa_nil)) (pg_name (i := 3) sc_law_ends.nd rfl (Or.inl rfl)) (pss_one (ps_if (PW.pt (pw_or (pt_cmpR op_ne (pe_meth (pv 0) T.cl_BitReader T.me_BitReader_read (ok_BitReader_read T) (hr.mono (by decide)) T.b_BitReader_read .nil passN (pa_cons pe_int pa_nil)) pe_int (nomark _)) (pw_or1 (pt_cmpR op_ne (pe_meth0 (pv 0) T.cl_BitReader T.me_BitReader_bit_place (ok_BitReader_bit_place T) (hr.mono (by decide)) T.b_BitReader_bit_place .nil pass0) (pe_op op_add (pe_op op_add (pv 2) (pv 3)) pe_int) (nomark _))))) (pss_one (ps_ret pe_bl)) pss_nil)))
      (pss_one (L2N.ps_try_as (i := 4) rfl rfl sc_law_ends.nd rfl rfl ⟨rfl, by decide, .inl T.g_Truncated⟩ takesN0 (fun W pn xe tk po => (pss_cons (ps_expr (pe_methX (pv 0) T.cl_BitReader T.me_BitReader_read (ok_BitReader_read T) (hr.mono (by decide)) T.b_BitReader_read .nil (fun σ => L2N.passAt tk σ) (pa_cons pe_int pa_nil)))
        (pss_one (ps_ret pe_bl)))) (fun a oe cls d pn hz hf => (pss_one (ps_ret (pe_and (pe_cmpR op_eq (pe_xfA hz.zc hf (pv 4)) (pv 1) (nomark _)) (pe_one (pe_cmpR op_eq (pe_methH0 (pv 0) T.cl_BitReader T.me_BitReader_bit_place (okh_BitReader_bit_place T) (roomH_suite hr (by decide)) (hot_of hz hf) T.b_BitReader_bit_place (fun _ => passH0)) (pe_op op_mul pe_int (pv 1)) (nomark _)))))))))))), ?_⟩
  refine q_asg (v := .int (pos : Int)) (ev_place (f := fun pos => (pos : Nat)) (ev_var rfl) hR rfl) fun H1 e1 => ?_
  have h8 : ∀ {σ : L2.St} {H1 : Hp}, σ[1]? = some (some (.int (ds.length : Int))) → Ev (tOp (rI CMul fun i j => .int (i * j)) (tC (.int 8)) (tVar 1)) σ H1 (.int ((8 * ds.length : Nat) : Int)) := fun hs => Ev.is (ev_I ev_c (ev_var hs) (.inl (by decide))) (congrArg V.int (by omega))
  refine q_when (b := false) (et_or (a := false) (b := false) (et_test (Ev.is (ev_I0 (ev_var rfl) (h8 rfl)) (congrArg V.bl (decide_eq_false (by show ¬ (_ : Int) < _; omega))))) fun _ => et_test (Ev.is (ev_I0 (ev_I0 (ev_var rfl) ev_c) (h8 rfl)) (congrArg V.bl (decide_eq_false (by show ¬ (_ : Int) ≤ _; omega))))) (fun hb => by cases hb) fun _ H2 e2 => ?_
  refine q_forR1 (n := ((8 * ds.length - pos : Nat) : Int)) (ea_cons (Ev.is (ev_I0 (h8 rfl) (ev_var rfl)) (congrArg V.int (by omega))) ea_nil) (by omega) (fun i σ' H' => ∃ z3 : Option V, σ' = [some (.ref a), some (.int (ds.length : Int)), some (.int (pos : Int)), z3, none] ∧ RdAt T.C_BitReader H' a d (pos + i) ∧ H' d = some (.lst ((cs ds).map V.int))) (fun H3 e3 => ⟨none, rfl, hR.ex ((e1.trans e2).trans e3), ((e1.trans e2).trans e3) _ _ hd⟩) ?_ ?_
  · rintro i σ' H3 hi ⟨z3, rfl, hR3, hd3⟩
    obtain ⟨dx, ha⟩ := id hR3
    have hb := hz (pos + i) (by omega) (by omega)
    have hv : valL (((ds.flatMap bits8).drop (pos + i)).take 1) = 0 := by
      have := valL_next (at_ := pos + i) (i := 0) hb
      rw [this, List.take_zero]
      rfl
    refine s_whenMopO (vs := [.int ((1 : Nat) : Int)]) (ev_var rfl) ha rfl (ea_cons ev_c ea_nil) fun H4 e4 => ⟨a, d, ds, pos + i, 1, rfl, hR3.ex e4, e4 _ _ hd3, hds, by omega, by omega, fun _ H5 hF hR5 => ?_, fun hlt => by omega⟩
    rw [hv]
    have hd5 := hF _ _ ((hR3.ex e4).ne (e4 _ _ hd3)) (e4 _ _ hd3)
    refine s_when (b := false) (et_or (a := false) (b := false) (et_test (Ev.is (ev_ne ev_c ev_c rfl) (congrArg V.bl (by decide)))) fun _ => et_test (Ev.is (ev_ne (ev_place (f := fun pos => (pos : Nat)) (ev_var rfl) hR5 rfl) (Ev.is (ev_I0 (ev_I0 (ev_var rfl) (ev_var rfl)) ev_c) (congrArg V.int (a₂ := ((pos + i + 1 : Nat) : Int)) (by omega))) rfl) (by rw [decide_eq_true rfl]; rfl))) (fun hb => by cases hb) fun _ H6 e6 => ?_
    exact ⟨_, rfl, hR5.ex e6, e6 _ _ hd5⟩
  · rintro σ' H3 ⟨z3, rfl, hR3, hd3⟩
    rw [Int.toNat_natCast, show pos + (8 * ds.length - pos) = 8 * ds.length by omega] at hR3
    obtain ⟨dx, ha⟩ := id hR3
    refine q_dropMX (sp := sp_readX T.C_BitReader T.C_Truncated) (m := "read") (dvs := []) (vs := [.int ((1 : Nat) : Int)]) (ev_var rfl) ha rfl (ea_cons ev_c ea_nil) fun H4 e4 => ⟨a, d, ds, 8 * ds.length, 1, rfl, hR3.ex e4, e4 _ _ hd3, hds, by omega, by omega, fun hle => by omega, fun _ H5 dd e5 he => ?_⟩
    refine ⟨true, exm_su T.x_Truncated T.su_Truncated_Truncated, fun _ a0 ha0 => ?_, fun z => by cases z⟩
    exact s_ret (v := .bl true) (Ev.is (ev_andV (ev_eq (ev_xfA (ev_var rfl) rfl T.x_Truncated.xf T.x_Truncated.nP rfl he rfl) (ev_var rfl) rfl) fun _ => ev_eq (ev_placeH (f := fun pos => (pos : Nat)) (ev_var rfl) (hR3.ex (e4.trans e5)) rfl) (h8 rfl) rfl) (congrArg V.bl (by rw [decide_eq_true rfl, decide_eq_true rfl]; rfl))) fun H6 e6 => k _
theorem FAt.upd {H : Hp} {t q Dl : Addr} {f : Fd} {acc : List V} {o : HO} (h : FAt H t q f) (hd : H Dl = some (.lst acc)) (hn : q ≠ Dl) : FAt (upd H Dl o) t q f :=
  h.keep (fun p xs g => by rw [upd_ne (fun z => by rw [z, hd] at g; cases g)]; exact g) (fun xs g => by rw [upd_ne hn]; exact g)
def Fds (H : Hp) (pf : Addr) (ts : List (Addr × Addr)) (fs : List Fd) : Prop := H pf = some (.lst (ts.map fun p => V.ref p.1)) ∧ ts.length = fs.length ∧ ∀ (i : Nat) p f, ts[i]? = some p → fs[i]? = some f → FAt H p.1 p.2 f
theorem Fds.ex {H H1 : Hp} {pf : Addr} {ts : List (Addr × Addr)} {fs : List Fd} (e : Ex H H1) (h : Fds H pf ts fs) : Fds H1 pf ts fs := ⟨e _ _ h.1, h.2.1, fun i p f h1 h2 => (h.2.2 i p f h1 h2).ex e⟩
theorem Fds.keep {H H1 : Hp} {pf : Addr} {ts : List (Addr × Addr)} {fs : List Fd} (h : Fds H pf ts fs) (h0 : ∀ xs, H pf = some (.lst xs) → H1 pf = some (.lst xs)) (h1 : ∀ p xs, H p = some (.tup xs) → H1 p = some (.tup xs)) (h2 : ∀ p ∈ ts, ∀ xs, H p.2 = some (.lst xs) → H1 p.2 = some (.lst xs)) : Fds H1 pf ts fs :=
  ⟨h0 _ h.1, h.2.1, fun i p f a b => (h.2.2 i p f a b).keep h1 (h2 p (List.mem_of_getElem? a))⟩
theorem Fds.frW {C a L : Addr} {H H1 : Hp} {pf : Addr} {ts : List (Addr × Addr)} {fs : List Fd} {ms : List Bool} (h : Fds H pf ts fs) (hF : Fr a L H H1) (hW : WrAt C H a L ms) (n0 : pf ≠ L) (n2 : ∀ p ∈ ts, p.2 ≠ L) : Fds H1 pf ts fs := by
  obtain ⟨dx, ws, hd, n, ha, hL, _⟩ := hW
  exact h.keep (fun xs g => hF _ _ (fun z => by rw [z, ha] at g; cases g) n0 g) (fun p xs g => hF _ _ (fun z => by rw [z, ha] at g; cases g) (fun z => by rw [z, hL] at g; cases g) g) (fun p hp xs g => hF _ _ (fun z => by rw [z, ha] at g; cases g) (n2 p hp) g)
theorem Fds.frR {C a d : Addr} {H H1 : Hp} {pf : Addr} {ts : List (Addr × Addr)} {fs : List Fd} {pos : Nat} (h : Fds H pf ts fs) (hF : FrA a H H1) (hR : RdAt C H a d pos) : Fds H1 pf ts fs := by
  obtain ⟨dx, ha⟩ := hR
  exact h.keep (fun xs g => hF _ _ (fun z => by rw [z, ha] at g; cases g) g) (fun p xs g => hF _ _ (fun z => by rw [z, ha] at g; cases g) g) (fun p hp xs g => hF _ _ (fun z => by rw [z, ha] at g; cases g) g)
theorem run_app (ms : List Bool) (fs gs : List Fd) : run ms (fs ++ gs) = run (run ms fs) gs := by unfold run; rw [List.foldl_append]
theorem run_pre : ∀ (fs : List Fd) (ms : List Bool), ∃ post, run ms fs = ms ++ post
  | [], ms => ⟨[], by rw [List.append_nil]; rfl⟩
  | f :: r, ms => by
    obtain ⟨post, h⟩ := run_pre r (ms ++ fb ms f)
    exact ⟨fb ms f ++ post, by rw [← List.append_assoc, ← h]; rfl⟩
theorem run_split {fs : List Fd} {i : Nat} {f : Fd} (ms : List Bool) (h : fs[i]? = some f) : run ms (fs.take (i + 1)) = run ms (fs.take i) ++ fb (run ms (fs.take i)) f ∧ ∃ post, run ms fs = run ms (fs.take i) ++ (fb (run ms (fs.take i)) f ++ post) := by
  have e1 : fs.take (i + 1) = fs.take i ++ [f] := by rw [List.take_add_one, h]; rfl
  have e2 : run ms (fs.take (i + 1)) = run ms (fs.take i) ++ fb (run ms (fs.take i)) f := by rw [e1, run_snoc]
  refine ⟨e2, ?_⟩
  obtain ⟨post, hp⟩ := run_pre (fs.drop (i + 1)) (run ms (fs.take (i + 1)))
  refine ⟨post, ?_⟩
  rw [← List.append_assoc, ← e2, ← hp, ← run_app, List.take_append_drop]
theorem run_len {fs : List Fd} (h : ∀ f ∈ fs, FOk f) (ms : List Bool) : ∀ i, i ≤ fs.length → (run ms (fs.take i)).length ≤ ms.length + 110 * i
  | 0, _ => by rw [List.take_zero]; exact Nat.le_refl _
  | i + 1, hi => by
    have hf : fs[i]? = some fs[i] := List.getElem?_eq_getElem (by omega)
    have := run_len h ms i (by omega)
    have h2 := fb_len (ms := run ms (fs.take i)) (h _ (List.getElem_mem (by omega : i < fs.length)))
    rw [(run_split ms hf).1, List.length_append]
    omega
def sp_law (K : PySem.W.Frag) : Sp := fun vs H Q _ => ∃ (a : Addr) (ns : List Int), vs = [.ref a] ∧ SqL K H a (ns.map V.int) ∧ ns.length ≤ 63 ∧ ∀ H', Q (.bl true) H'
theorem ok_law (T : TX K mg) : FnOk P w K mg base CX0 6 T.a_law T.d_law ["script"] (sp_law K) := by
  refine T.F_law.ok sc_law (fun vs H Q E h => by obtain ⟨a, ns, rfl, _⟩ := h; rfl) (fun cdv A outer s H vs Q E hr h => ?_)
  obtain ⟨a, ns, rfl, hS, hlen, q⟩ := h
  refine ⟨_, (pss_cons (ps_set (i := 1) sc_law.nd rfl (Or.inl rfl) (pe_make0 T.M_BitWriter (ok_BitWriter_init T) (hr.mono (by decide)) (by rfl) T.g_BitWriter T.b_BitWriter_init .nil pass0))
      (pss_cons (ps_set (i := 2) sc_law.nd rfl (Or.inl rfl) (pe_op op_mod (pe_callTy call_int1 (by rfl) T.m_int PyProof.Rows.boot_int (pa_cons (pe_call (ok_law_cell T) (hr.mono (by decide)) (by rfl) T.g_law_cell T.F_law_cell.kp T.b_law_cell .nil pass0 (pa_cons (pv 0) (pa_cons pe_int pa_nil))) pa_nil)) pe_int))
      (pss_cons (ps_expr (pe_meth (pv 1) T.cl_BitWriter T.me_BitWriter_append_bytes (ok_BitWriter_append_bytes T) (hr.mono (by decide)) T.b_BitWriter_append_bytes .nil pass0 (pa_cons (pe_lc (own := [("k", 7)]) (g := gName 7) (tt := tYes) rfl sc_law.nd (pi_range1 (by rfl) T.m_range (pa_cons (pv 2) pa_nil)) (blkOk_by (N := ["script", "writer", "front", "fields", "field", "data", "reader", "k", "cell"]) (sc := defScope s_law) (by decide +kernel)) (fun _ _ _ _ _ => pg_name (i := 7) sc_law.nd rfl (Or.inl rfl)) (fun _ _ _ _ _ => pts_nil) (fun _ _ _ _ _ => (pe_op op_mod (pe_callTy call_int1 (by rfl) T.m_int PyProof.Rows.boot_int (pa_cons (pe_call (ok_law_cell T) (hr.mono (by decide)) (by rfl) T.g_law_cell T.F_law_cell.kp T.b_law_cell .nil pass0 (pa_cons (pv 0) (pa_cons pe_int pa_nil))) pa_nil)) pe_int))) pa_nil)))
      (pss_cons (ps_setLc (i := 3) (own := [("cell", 8)]) (g := gName 8) (tt := tYes) rfl sc_law.nd rfl rfl (sw_true rfl rfl rfl (by decide +kernel)) (pi_list (pe_slice (r := rSlL K) sl_list (pv 0) (po_some pe_int) (po_some pe_int))) (blkOk_by (N := ["script", "writer", "front", "fields", "field", "data", "reader", "k", "cell"]) (sc := defScope s_law) (by decide +kernel)) (fun _ _ _ _ _ => pg_name (i := 8) sc_law.nd rfl (Or.inl rfl)) (fun _ _ _ _ _ => pts_nil) (fun _ _ _ _ _ => (pe_call (ok_law_field T) (hr.mono (by decide)) (by rfl) T.g_law_field T.F_law_field.kp T.b_law_field .nil pass0 (pa_cons (pv 8) pa_nil))))
      (pss_cons (ps_for PassesOwn.never rfl (pi_list (pv 3)) (pg_name (i := 4) sc_law.nd rfl (Or.inl rfl)) (pss_one (ps_expr (pe_call (ok_law_write T) (hr.mono (by decide)) (by rfl) T.g_law_write T.F_law_write.kp T.b_law_write .nil pass0 (pa_cons (pv 1) (pa_cons (pv 4) pa_nil))))))
      (pss_cons (ps_set (i := 5) sc_law.nd rfl (Or.inl rfl) (pe_meth0 (pv 1) T.cl_BitWriter T.me_BitWriter_byte_list (ok_BitWriter_byte_list T) (hr.mono (by decide)) T.b_BitWriter_byte_list .nil pass0))
      (pss_cons (ps_if (pt_cmpR op_ne (pe_callB (r := rLenS K) call_len_seq (by rfl) T.m_len PySem.boot_len (pa_cons (pv 5) pa_nil)) (pe_op op_fdiv (pe_op op_add (pe_meth0 (pv 1) T.cl_BitWriter T.me_BitWriter_bits_written (ok_BitWriter_bits_written T) (hr.mono (by decide)) T.b_BitWriter_bits_written .nil pass0) pe_int) pe_int) (nomark _)) (pss_one (ps_ret pe_bl)) pss_nil)
      (pss_cons (ps_set (i := 6) sc_law.nd rfl (Or.inl rfl) (pe_make T.M_BitReader (ok_BitReader_init T) (hr.mono (by decide)) (by rfl) T.g_BitReader T.b3_BitReader_init T.v3_BitReader_init pass0 (pa_cons (pe_callTy (r := rListS K) call_list_of (by rfl) T.m_list PyProof.Rows.boot_list (pa_cons (pv 5) pa_nil)) (pa_cons (pv 2) pa_nil))))
      (pss_cons (ps_for PassesOwn.never rfl (pi_list (pv 3)) (pg_name (i := 4) sc_law.nd rfl (Or.inl rfl)) (pss_one (ps_if (pt_not (pt_val (pe_call (ok_law_read T) (hr.mono (by decide)) (by rfl) T.g_law_read T.F_law_read.kp T.b_law_read .nil pass0 (pa_cons (pv 6) (pa_cons (pv 4) pa_nil))))) (pss_one (ps_ret pe_bl)) pss_nil)))
      (pss_one (ps_ret (pe_and (pe_cmpR op_eq (pe_meth0 (pv 6) T.cl_BitReader T.me_BitReader_bit_place (ok_BitReader_bit_place T) (hr.mono (by decide)) T.b_BitReader_bit_place .nil pass0) (pe_meth0 (pv 1) T.cl_BitWriter T.me_BitWriter_bits_written (ok_BitWriter_bits_written T) (hr.mono (by decide)) T.b_BitWriter_bits_written .nil pass0) (nomark _)) (pe_one (pe_call (ok_law_ends T) (hr.mono (by decide)) (by rfl) T.g_law_ends T.F_law_ends.kp T.b_law_ends .nil pass0 (pa_cons (pv 6) (pa_cons (pe_callB (r := rLenS K) call_len_seq (by rfl) T.m_len PySem.boot_len (pa_cons (pv 5) pa_nil)) pa_nil)))))))))))))))), ?_⟩
  refine q_mkw (C := T.C_BitWriter) fun wa L H1 hwa hL0 e1 hW1 => ?_
  obtain ⟨fr, hfr⟩ : ∃ fr : Nat, cellI ns 0 % 4 = (fr : Int) := ⟨(cellI ns 0 % 4).toNat, by omega⟩
  refine q_asg (v := .int (fr : Int)) (Ev.is (ev_I (ev_int1 (ev_cell (ev_var rfl) (ex_l e1 hS) ev_c (by decide))) ev_c (by decide)) (congrArg V.int hfr)) fun H2 e2 => ?_
  obtain ⟨by0, hby⟩ : ∃ b : Nat, cellI ns 0 % 256 = (b : Int) := ⟨(cellI ns 0 % 256).toNat, by omega⟩
  have hby2 : by0 < 256 := by omega
  have hfr4 : fr < 4 := by omega
  obtain ⟨hs, hhs⟩ : ∃ hs, hs = List.replicate fr by0 := ⟨_, rfl⟩
  have hhl : hs.length = fr := by rw [hhs, List.length_replicate]
  have hW2 := hW1.ex e2
  obtain ⟨dx2, ws2, hd2, n2, ha2, hL2, _⟩ := id hW2
  refine q_dropML (xs := (cs hs).map V.int) (ev_var rfl) ha2 rfl (el_lcR (n := (fr : Int)) _ (ea_cons (ev_var rfl) ea_nil) (by omega) (by rw [List.length_map, cs_len, hhl]; omega) (by rw [List.length_map, cs_len, hhl]; omega) (fun _ => rfl) fun i H10 e10 hi => by
    rw [List.length_map, cs_len, hhl] at hi
    exact ⟨_, at_int (cs_at (d := by0) (by rw [hhs, List.getElem?_replicate, if_pos hi])), Ev.is (ev_I (ev_int1 (ev_cell (ev_var rfl) (ex_l ((e1.trans e2).trans e10) hS) ev_c (by decide))) ev_c (by decide)) (congrArg V.int hby)⟩) fun p H3 hp e3 g3 => ⟨wa, L, p, [], hs, rfl, hW2.ex e3, g3, (fresh_ne hp hL2).symm, fun d hd => by rw [hhs] at hd; rw [List.eq_of_mem_replicate hd]; exact hby2, by show 0 + _ ≤ _; omega, fun H4 hF4 hW4 => ?_⟩
  rw [List.nil_append] at hW4
  have ex3 := (e1.trans e2).trans e3
  have ex4 : Ex H H4 := fun b o hb => hF4 _ _ (fresh_ne hwa hb) (fresh_ne hL0 hb) (ex3 _ _ hb)
  obtain ⟨B0, hB0⟩ : ∃ B0, hs.flatMap bits8 = B0 := ⟨_, rfl⟩
  rw [hB0] at hW4
  have hB0l : B0.length = 8 * fr := by rw [← hB0, bits_flat_len, hhl]
  obtain ⟨dx4, ws4, hd4, n4, ha4, hL4, _⟩ := id hW4
  refine q_asgRaw (fun x H5 => ∃ pf ts fs, x = .ref pf ∧ Ex H4 H5 ∧ Fds H5 pf ts fs ∧ (∀ f ∈ fs, FOk f) ∧ fs.length ≤ 62 ∧ pf ≠ L ∧ ∀ t ∈ ts, t.2 ≠ L) (fun Q1 q1 => ?_) ?_
  · refine tlc_lstM (xs := ((ns.drop 1).take 62).map V.int) (EvR.s (EvL.r (el_mid (i := 1) (j := 63) (Ev.s (ev_var rfl) (ex_l ex4 hS)) ev_c ev_c))) fun p H6 e6 hp6 Dl hDl => ⟨fun (i : Nat) (H' : Hp) => ∃ (ts : List (Addr × Addr)) (fs : List Fd), Ex H6 H' ∧ H' Dl = some (.lst (ts.map fun p : Addr × Addr => V.ref p.1)) ∧ ts.length = i ∧ fs.length = i ∧ (∀ (k : Nat) p f, ts[k]? = some p → fs[k]? = some f → FAt H' p.1 p.2 f) ∧ (∀ f ∈ fs, FOk f) ∧ (∀ t ∈ ts, t.2 ≠ L ∧ t.2 ≠ Dl),
      ⟨[], [], Ex.new hDl, upd_same, rfl, rfl, fun k p f h _ => by simp at h, (fun f h => by cases h), (fun t h => by cases h)⟩, fun i H' ⟨ts, fs, e, _⟩ => ex_l e hp6, fun i x H' hx ⟨ts, fs, e, hd, htl, hfl, hat, hok, hne⟩ => ⟨rfl, ?_⟩, fun H' ⟨ts, fs, e, hd, htl, hfl, hat, hok, hne⟩ => q1 _ _ ⟨Dl, ts, fs, rfl, e6.trans e, ⟨hd, by omega, hat⟩, hok, by rw [hfl, List.length_map, List.length_take]; omega, (fresh_ne hDl (e6 _ _ hL4)).symm, fun t ht => (hne t ht).1⟩⟩
    obtain ⟨c, hc, hi, rfl⟩ := int_at hx
    rw [List.length_take] at hi
    refine (ea_cons (ev_var rfl) ea_nil : EvA _ _ _ [.int c]) H' (Ex.refl _) _ fun H7 e7 => ⟨c, rfl, fun f t q H8 ht hq e8 hfo hat8 => ?_⟩
    have hd7 := e7 _ _ hd
    have hd8 := e8 _ _ hd7
    have hL7 := e7 _ _ (e _ _ (e6 _ _ hL4))
    have hqD : q ≠ Dl := (fresh_ne hq hd7).symm
    refine ⟨_, hd8, by rw [List.length_map, htl]; exact Nat.lt_of_lt_of_le (show i < 1000 by omega) (by decide), ts ++ [(t, q)], fs ++ [f], Ex.mut (e.trans (e7.trans e8)) hDl, by rw [upd_same, List.map_append]; rfl, by rw [List.length_append, htl]; rfl, by rw [List.length_append, hfl]; rfl, fun k p g h1 h2 => ?_, fun g hg => ?_, fun u hu => ?_⟩
    · by_cases hk : k < i
      · rw [List.getElem?_append_left (by omega)] at h1 h2
        exact ((hat k p g h1 h2).ex (e7.trans e8)).upd hd8 (hne p (List.mem_of_getElem? h1)).2
      · rw [List.getElem?_append_right (by omega)] at h1 h2
        rw [htl] at h1
        rw [hfl] at h2
        have hk0 : k - i = 0 := by
          cases hz : k - i with
          | zero => rfl
          | succ m => rw [hz] at h1; simp at h1
        rw [hk0] at h1 h2
        cases Option.some.inj h1
        cases Option.some.inj h2
        exact hat8.upd hd8 hqD
    · rcases List.mem_append.mp hg with h | h
      · exact hok g h
      · cases List.mem_singleton.mp h
        exact hfo
    · rcases List.mem_append.mp hu with h | h
      · exact hne u h
      · cases List.mem_singleton.mp h
        exact ⟨(fresh_ne hq hL7).symm, hqD⟩
  rintro _ H5 ⟨pf, ts, fs, rfl, e5, hFd, hfo, hfl, nfL, ntL⟩
  refine q_forLn (K := K) (a := pf) (ev_var rfl) (sq_of hFd.1) (fun i σ' H' => ∃ z4 : Option V, σ' = [some (.ref a), some (.ref wa), some (.int (fr : Int)), some (.ref pf), z4, none, none, none, none] ∧ Fds H' pf ts fs ∧ WrAt T.C_BitWriter H' wa L (run B0 (fs.take i)))
    (fun H6 e6 => ⟨none, rfl, hFd.ex e6, by rw [List.take_zero]; exact hW4.ex (e5.trans e6)⟩) (fun i σ' H' _ h => by obtain ⟨_, _, hf, _⟩ := h; exact sq_of hf.1) ?_ ?_
  · rintro i x σ' H6 hx ⟨z4, rfl, hF6, hW6⟩
    rw [List.getElem?_map] at hx
    obtain ⟨t, ht, rfl⟩ := Option.map_eq_some_iff.mp hx
    have hi : i < fs.length := by have := (List.getElem?_eq_some_iff.mp ht).1; have := hF6.2.1; omega
    have hfi : fs[i]? = some fs[i] := List.getElem?_eq_getElem hi
    have hrl := run_len hfo B0 i (by omega)
    have hfk := hfo _ (List.getElem_mem hi)
    refine s_dropC (vs := [.ref wa, .ref t.1]) (ea_cons (ev_var rfl) (ea_cons (ev_var rfl) ea_nil)) fun H7 e7 => ⟨wa, L, t.1, t.2, run B0 (fs.take i), fs[i], rfl, hW6.ex e7, (hF6.2.2 i t _ ht hfi).ex e7, hfk, ntL t (List.mem_of_getElem? ht), by omega, fun H8 hF hW8 => ⟨_, rfl, (hF6.ex e7).frW hF (hW6.ex e7) nfL ntL, ?_⟩⟩
    rw [(run_split B0 hfi).1]
    exact hW8
  · rintro σ' H6 ⟨z4, rfl, hF6, hW6⟩
    rw [List.length_map, hF6.2.1, List.take_length] at hW6
    have hml := run_len hfo B0 fs.length (Nat.le_refl _)
    rw [List.take_length] at hml
    obtain ⟨ms, hms⟩ : ∃ ms, run B0 fs = ms := ⟨_, rfl⟩
    rw [hms] at hW6 hml
    obtain ⟨dx6, ws6, hd6, n6, ha6, hL6, _⟩ := id hW6
    refine q_asgM (vs := []) (ev_var rfl) ha6 rfl ea_nil fun H7 e7 => ⟨wa, L, ms, rfl, hW6.ex e7, by omega, fun pd us H8 hpd e8 g8 hus hub => ?_⟩
    have e68 := e7.trans e8
    have hul : 8 * us.length = ms.length + padN ms.length := by
      have := congrArg List.length hus
      rwa [bits_flat_len, List.length_append, List.length_replicate] at this
    have hpn : padN ms.length < 8 := by unfold padN; omega
    have hlv : ∀ {σ : L2.St} {H1 : Hp}, σ[5]? = some (some (.ref pd)) → H1 pd = some (.lst ((cs us).map V.int)) → Ev (tCB (rLenS K) (tCons (tVar 5) tNil)) σ H1 (.int (us.length : Int)) := fun hs g => Ev.is (ev_lenS (Ev.s (ev_var hs) (sq_of g))) (by rw [List.length_map, cs_len])
    refine q_when (b := false) (et_test (Ev.is (ev_ne (hlv rfl g8) (Ev.is (ev_I (ev_I0 (ev_wmany (ev_var rfl) (hW6.ex e68)) ev_c) ev_c ⟨by decide, by decide⟩) (congrArg V.int (a₂ := (us.length : Int)) (by omega))) rfl) (by rw [decide_eq_true rfl]; rfl))) (fun hb => by cases hb) fun _ H9 e9 => ?_
    refine q_mk_r (C := T.C_BitReader) (xs := (cs us).map V.int) (n := fr) (el_of (Ev.s (ev_var rfl) (sq_of (e9 _ _ g8)))) (ev_var rfl) (by omega) fun ra d H10 hra nrd hd10 e10 g10 hR10 => ?_
    have e610 := e68.trans (e9.trans e10)
    have nwr : wa ≠ ra := fresh_ne hra ((e68.trans e9) _ _ ha6)
    have hF10 := hF6.ex e610
    refine q_forLn (K := K) (a := pf) (ev_var rfl) (sq_of hF10.1) (fun i σ' H' => ∃ z4 : Option V, σ' = [some (.ref a), some (.ref wa), some (.int (fr : Int)), some (.ref pf), z4, some (.ref pd), some (.ref ra), none, none] ∧ Fds H' pf ts fs ∧ WrAt T.C_BitWriter H' wa L ms ∧ RdAt T.C_BitReader H' ra d (run B0 (fs.take i)).length ∧ H' d = some (.lst ((cs us).map V.int)) ∧ H' pd = some (.lst ((cs us).map V.int)))
      (fun H11 e11 => ⟨z4, rfl, hF10.ex e11, hW6.ex (e610.trans e11), by rw [List.take_zero, show (run B0 []).length = 8 * fr from hB0l]; exact hR10.ex e11, e11 _ _ g10, ((e9.trans e10).trans e11) _ _ g8⟩) (fun i σ' H' _ h => by obtain ⟨_, _, hf, _⟩ := h; exact sq_of hf.1) ?_ ?_
    · rintro i x σ' H11 hx ⟨z4, rfl, hF11, hW11, hR11, gd, gp⟩
      rw [List.getElem?_map] at hx
      obtain ⟨t, ht, rfl⟩ := Option.map_eq_some_iff.mp hx
      have hi : i < fs.length := by have := (List.getElem?_eq_some_iff.mp ht).1; have := hF11.2.1; omega
      have hfi : fs[i]? = some fs[i] := List.getElem?_eq_getElem hi
      have hfk := hfo _ (List.getElem_mem hi)
      obtain ⟨hr1, post, hr2⟩ := run_split B0 hfi
      refine s_whenNCall (vs := [.ref ra, .ref t.1]) (ea_cons (ev_var rfl) (ea_cons (ev_var rfl) ea_nil)) fun H12 e12 => ⟨ra, d, t.1, t.2, us, run B0 (fs.take i), post ++ List.replicate (padN ms.length) false, fs[i], rfl, hR11.ex e12, e12 _ _ gd, hub, by omega, (hF11.2.2 i t _ ht hfi).ex e12, hfk, by rw [hus, ← hms, hr2]; simp only [List.append_assoc], fun H13 hF hR13 => ?_⟩
      have hR12 := hR11.ex e12
      refine s_when (b := false) (et_not (a := true) (et_B ev_c)) (fun hb => by cases hb) fun _ H14 e14 => ⟨_, rfl, ((hF11.ex e12).frR hF hR12).ex e14, ?_, ?_, e14 _ _ (hF _ _ (hR12.ne (e12 _ _ gd)) (e12 _ _ gd)), e14 _ _ (hF _ _ (hR12.ne (e12 _ _ gp)) (e12 _ _ gp))⟩
      · obtain ⟨dx, ws, hd, n, h1, h2, h3⟩ := hW11.ex e12
        exact WrAt.ex e14 ⟨dx, ws, hd, n, hF _ _ nwr h1, hF _ _ (hR12.ne h2) h2, h3⟩
      · rw [hr1]
        exact hR13.ex e14
    · rintro σ' H11 ⟨z4, rfl, hF11, hW11, hR11, gd, gp⟩
      rw [List.length_map, hF11.2.1, List.take_length, hms] at hR11
      refine s_retAndC (vs := [.ref ra, .int (us.length : Int)]) (Ev.is (ev_eq (ev_place (f := fun pos => (pos : Nat)) (ev_var rfl) hR11 rfl) (ev_wmany (ev_var rfl) hW11) rfl) (congrArg V.bl (decide_eq_true rfl))) (ea_cons (ev_var rfl) (ea_cons (hlv rfl gp) ea_nil)) fun H12 e12 => ⟨ra, d, us, ms.length, rfl, hR11.ex e12, e12 _ _ gd, hub, by omega, by omega, by omega, fun i h1 h2 => ?_, fun H' => q _⟩
      rw [hus, List.getElem?_append_right h1, List.getElem?_replicate, if_pos (by omega)]

end
theorem all_mk {l : PySem.W.OpenLaw} {w : World} {K : PySem.W.Frag} {h : Heap} {mg : Str → Option Value} {fa : Addr} {f1 f2 f3 f4 f5 f6 f7 f8 f9 f10 f11 f12 f13 f14 f15 f16 f17 f18 f19 f20 f21 f22 f23 f24 f25 f26 C_BitWriter C_BitReader C_MonochordError C_Truncated C_InvalidForm : Addr} (X : K.In h) (G : h.Ns mainGlobals mg) (hfa : mg "law" = some (.ref fa))
    {od1 an1 : Option Addr} {sl1 : Array (Option Value)} {oc1 dc1 pm1 cd1 ct1 : Value} {kV1 : Value} {od2 an2 : Option Addr} {sl2 : Array (Option Value)} {oc2 dc2 pm2 cd2 ct2 : Value} {kV2 : Value} {od3 an3 : Option Addr} {sl3 : Array (Option Value)} {oc3 dc3 pm3 cd3 ct3 : Value} {kV3 : Value} {od4 an4 : Option Addr} {sl4 : Array (Option Value)} {oc4 dc4 pm4 cd4 ct4 : Value} {kV4 : Value} {od5 an5 : Option Addr} {sl5 : Array (Option Value)} {oc5 dc5 pm5 cd5 ct5 : Value} {kV5 : Value} {od6 an6 : Option Addr} {sl6 : Array (Option Value)} {oc6 dc6 pm6 cd6 ct6 : Value} {kV6 : Value} {od7 an7 : Option Addr} {sl7 : Array (Option Value)} {oc7 dc7 pm7 cd7 ct7 : Value} {kV7 : Value} {od8 an8 : Option Addr} {sl8 : Array (Option Value)} {oc8 dc8 pm8 cd8 ct8 : Value} {kV8 : Value} {od9 an9 : Option Addr} {sl9 : Array (Option Value)} {oc9 dc9 pm9 cd9 ct9 : Value} {kV9 : Value} {od10 an10 : Option Addr} {sl10 : Array (Option Value)} {oc10 dc10 pm10 cd10 ct10 : Value} {kV10 : Value} {DT10 : Addr} {du10_0 tc10 : Value} {td10 : Option Addr} {tn10 : Nat} {tsl10 : Array (Option Value)} {od11 an11 : Option Addr} {sl11 : Array (Option Value)} {oc11 dc11 pm11 cd11 ct11 : Value} {kV11 : Value} {od12 an12 : Option Addr} {sl12 : Array (Option Value)} {oc12 dc12 pm12 cd12 ct12 : Value} {kV12 : Value} {od13 an13 : Option Addr} {sl13 : Array (Option Value)} {oc13 dc13 pm13 cd13 ct13 : Value} {kV13 : Value} {od14 an14 : Option Addr} {sl14 : Array (Option Value)} {oc14 dc14 pm14 cd14 ct14 : Value} {kV14 : Value} {od15 an15 : Option Addr} {sl15 : Array (Option Value)} {oc15 dc15 pm15 cd15 ct15 : Value} {kV15 : Value} {od16 an16 : Option Addr} {sl16 : Array (Option Value)} {oc16 dc16 pm16 cd16 ct16 : Value} {kV16 : Value} {od17 an17 : Option Addr} {sl17 : Array (Option Value)} {oc17 dc17 pm17 cd17 ct17 : Value} {kV17 : Value} {od18 an18 : Option Addr} {sl18 : Array (Option Value)} {oc18 dc18 pm18 cd18 ct18 : Value} {kV18 : Value} {od19 an19 : Option Addr} {sl19 : Array (Option Value)} {oc19 dc19 pm19 cd19 ct19 : Value} {kV19 : Value} {od20 an20 : Option Addr} {sl20 : Array (Option Value)} {oc20 dc20 pm20 cd20 ct20 : Value} {kV20 : Value} {od21 an21 : Option Addr} {sl21 : Array (Option Value)} {oc21 dc21 pm21 cd21 ct21 : Value} {kV21 : Value} {od22 an22 : Option Addr} {sl22 : Array (Option Value)} {oc22 dc22 pm22 cd22 ct22 : Value} {kV22 : Value} {od23 an23 : Option Addr} {sl23 : Array (Option Value)} {oc23 dc23 pm23 cd23 ct23 : Value} {kV23 : Value} {od24 an24 : Option Addr} {sl24 : Array (Option Value)} {oc24 dc24 pm24 cd24 ct24 : Value} {kV24 : Value} {od25 an25 : Option Addr} {sl25 : Array (Option Value)} {oc25 dc25 pm25 cd25 ct25 : Value} {kV25 : Value} {od26 an26 : Option Addr} {sl26 : Array (Option Value)} {oc26 dc26 pm26 cd26 ct26 : Value} {kV26 : Value} {xn_MonochordError xq_MonochordError : Str} {xN_MonochordError : Addr} {xb_MonochordError : List Value} {xs_MonochordError : List Str} {xu_MonochordError : List Value} {xa_MonochordError : Bool} {xc_MonochordError : Option Bool} {xd_MonochordError : Option Addr} {xj0_MonochordError xj1_MonochordError xj3_MonochordError xj5_MonochordError : Option Value} {xt_MonochordError : Tok} {xn_Truncated xq_Truncated : Str} {xN_Truncated : Addr} {xb_Truncated : List Value} {xs_Truncated : List Str} {xu_Truncated : List Value} {xa_Truncated : Bool} {xc_Truncated : Option Bool} {xd_Truncated : Option Addr} {xj0_Truncated xj1_Truncated xj3_Truncated xj5_Truncated : Option Value} {xt_Truncated : Tok} {xn_InvalidForm xq_InvalidForm : Str} {xN_InvalidForm : Addr} {xb_InvalidForm : List Value} {xs_InvalidForm : List Str} {xu_InvalidForm : List Value} {xa_InvalidForm : Bool} {xc_InvalidForm : Option Bool} {xd_InvalidForm : Option Addr} {xj0_InvalidForm xj1_InvalidForm xj3_InvalidForm xj5_InvalidForm : Option Value} {xt_InvalidForm : Tok} {u_MOST_ZEROS : Value}
    (a1 : PySem.W.findIn K (.ref C_MonochordError) "__init__" = some (some (.ref f1))) (i1 : PySem.W.isFn K (.ref f1) = true)
    (l1 : K.lookup f1 = some ⟨oc1, od1, .func (PySem.W.fnOf "__init__" "MonochordError.__init__" (defArgs s_MonochordError_init) (defBody s_MonochordError_init) (defScope s_MonochordError_init) .none kV1 dc1 pm1 an1 cd1 ct1), sl1⟩) (c1 : PySem.W.codeIn K cd1 "MonochordError.__init__" = true) (k1 : PySem.W.keepIn K (.ref f1) = true)
    (a2 : PySem.W.findIn K (.ref C_BitWriter) "__init__" = some (some (.ref f2))) (i2 : PySem.W.isFn K (.ref f2) = true)
    (l2 : K.lookup f2 = some ⟨oc2, od2, .func (PySem.W.fnOf "__init__" "BitWriter.__init__" (defArgs s_BitWriter_init) (defBody s_BitWriter_init) (defScope s_BitWriter_init) .none kV2 dc2 pm2 an2 cd2 ct2), sl2⟩) (c2 : PySem.W.codeIn K cd2 "BitWriter.__init__" = true) (k2 : PySem.W.keepIn K (.ref f2) = true)
    (a3 : PySem.W.findIn K (.ref C_BitWriter) "write" = some (some (.ref f3))) (i3 : PySem.W.isFn K (.ref f3) = true)
    (l3 : K.lookup f3 = some ⟨oc3, od3, .func (PySem.W.fnOf "write" "BitWriter.write" (defArgs s_BitWriter_write) (defBody s_BitWriter_write) (defScope s_BitWriter_write) .none kV3 dc3 pm3 an3 cd3 ct3), sl3⟩) (c3 : PySem.W.codeIn K cd3 "BitWriter.write" = true) (k3 : PySem.W.keepIn K (.ref f3) = true)
    (a4 : PySem.W.findIn K (.ref C_BitWriter) "write_signed" = some (some (.ref f4))) (i4 : PySem.W.isFn K (.ref f4) = true)
    (l4 : K.lookup f4 = some ⟨oc4, od4, .func (PySem.W.fnOf "write_signed" "BitWriter.write_signed" (defArgs s_BitWriter_write_signed) (defBody s_BitWriter_write_signed) (defScope s_BitWriter_write_signed) .none kV4 dc4 pm4 an4 cd4 ct4), sl4⟩) (c4 : PySem.W.codeIn K cd4 "BitWriter.write_signed" = true) (k4 : PySem.W.keepIn K (.ref f4) = true)
    (a5 : PySem.W.findIn K (.ref C_BitWriter) "write_unary" = some (some (.ref f5))) (i5 : PySem.W.isFn K (.ref f5) = true)
    (l5 : K.lookup f5 = some ⟨oc5, od5, .func (PySem.W.fnOf "write_unary" "BitWriter.write_unary" (defArgs s_BitWriter_write_unary) (defBody s_BitWriter_write_unary) (defScope s_BitWriter_write_unary) .none kV5 dc5 pm5 an5 cd5 ct5), sl5⟩) (c5 : PySem.W.codeIn K cd5 "BitWriter.write_unary" = true) (k5 : PySem.W.keepIn K (.ref f5) = true)
    (a6 : PySem.W.findIn K (.ref C_BitWriter) "pad" = some (some (.ref f6))) (i6 : PySem.W.isFn K (.ref f6) = true)
    (l6 : K.lookup f6 = some ⟨oc6, od6, .func (PySem.W.fnOf "pad" "BitWriter.pad" (defArgs s_BitWriter_pad) (defBody s_BitWriter_pad) (defScope s_BitWriter_pad) .none kV6 dc6 pm6 an6 cd6 ct6), sl6⟩) (c6 : PySem.W.codeIn K cd6 "BitWriter.pad" = true) (k6 : PySem.W.keepIn K (.ref f6) = true)
    (a7 : PySem.W.findIn K (.ref C_BitWriter) "append_bytes" = some (some (.ref f7))) (i7 : PySem.W.isFn K (.ref f7) = true)
    (l7 : K.lookup f7 = some ⟨oc7, od7, .func (PySem.W.fnOf "append_bytes" "BitWriter.append_bytes" (defArgs s_BitWriter_append_bytes) (defBody s_BitWriter_append_bytes) (defScope s_BitWriter_append_bytes) .none kV7 dc7 pm7 an7 cd7 ct7), sl7⟩) (c7 : PySem.W.codeIn K cd7 "BitWriter.append_bytes" = true) (k7 : PySem.W.keepIn K (.ref f7) = true)
    (a8 : PySem.W.findIn K (.ref C_BitWriter) "byte_list" = some (some (.ref f8))) (i8 : PySem.W.isFn K (.ref f8) = true)
    (l8 : K.lookup f8 = some ⟨oc8, od8, .func (PySem.W.fnOf "byte_list" "BitWriter.byte_list" (defArgs s_BitWriter_byte_list) (defBody s_BitWriter_byte_list) (defScope s_BitWriter_byte_list) .none kV8 dc8 pm8 an8 cd8 ct8), sl8⟩) (c8 : PySem.W.codeIn K cd8 "BitWriter.byte_list" = true) (k8 : PySem.W.keepIn K (.ref f8) = true)
    (a9 : PySem.W.findIn K (.ref C_BitWriter) "bits_written" = some (some (.ref f9))) (i9 : PySem.W.isFn K (.ref f9) = true)
    (l9 : K.lookup f9 = some ⟨oc9, od9, .func (PySem.W.fnOf "bits_written" "BitWriter.bits_written" (defArgs s_BitWriter_bits_written) (defBody s_BitWriter_bits_written) (defScope s_BitWriter_bits_written) .none kV9 dc9 pm9 an9 cd9 ct9), sl9⟩) (c9 : PySem.W.codeIn K cd9 "BitWriter.bits_written" = true) (k9 : PySem.W.keepIn K (.ref f9) = true)
    (a10 : PySem.W.findIn K (.ref C_BitReader) "__init__" = some (some (.ref f10))) (i10 : PySem.W.isFn K (.ref f10) = true)
    (l10 : K.lookup f10 = some ⟨oc10, od10, .func (PySem.W.fnOf "__init__" "BitReader.__init__" (defArgs s_BitReader_init) (defBody s_BitReader_init) (defScope s_BitReader_init) (.ref DT10) kV10 dc10 pm10 an10 cd10 ct10), sl10⟩) (c10 : PySem.W.codeIn K cd10 "BitReader.__init__" = true) (k10 : PySem.W.keepIn K (.ref f10) = true)
    (t10 : K.lookup DT10 = some ⟨tc10, td10, .seq (List.toArray [du10_0]) tn10, tsl10⟩)
    (rd10_0 : RelV (V.int 0) du10_0)
    (a11 : PySem.W.findIn K (.ref C_BitReader) "read" = some (some (.ref f11))) (i11 : PySem.W.isFn K (.ref f11) = true)
    (l11 : K.lookup f11 = some ⟨oc11, od11, .func (PySem.W.fnOf "read" "BitReader.read" (defArgs s_BitReader_read) (defBody s_BitReader_read) (defScope s_BitReader_read) .none kV11 dc11 pm11 an11 cd11 ct11), sl11⟩) (c11 : PySem.W.codeIn K cd11 "BitReader.read" = true) (k11 : PySem.W.keepIn K (.ref f11) = true)
    (a12 : PySem.W.findIn K (.ref C_BitReader) "read_signed" = some (some (.ref f12))) (i12 : PySem.W.isFn K (.ref f12) = true)
    (l12 : K.lookup f12 = some ⟨oc12, od12, .func (PySem.W.fnOf "read_signed" "BitReader.read_signed" (defArgs s_BitReader_read_signed) (defBody s_BitReader_read_signed) (defScope s_BitReader_read_signed) .none kV12 dc12 pm12 an12 cd12 ct12), sl12⟩) (c12 : PySem.W.codeIn K cd12 "BitReader.read_signed" = true) (k12 : PySem.W.keepIn K (.ref f12) = true)
    (a13 : PySem.W.findIn K (.ref C_BitReader) "read_unary" = some (some (.ref f13))) (i13 : PySem.W.isFn K (.ref f13) = true)
    (l13 : K.lookup f13 = some ⟨oc13, od13, .func (PySem.W.fnOf "read_unary" "BitReader.read_unary" (defArgs s_BitReader_read_unary) (defBody s_BitReader_read_unary) (defScope s_BitReader_read_unary) .none kV13 dc13 pm13 an13 cd13 ct13), sl13⟩) (c13 : PySem.W.codeIn K cd13 "BitReader.read_unary" = true) (k13 : PySem.W.keepIn K (.ref f13) = true)
    (a14 : PySem.W.findIn K (.ref C_BitReader) "read_bytes" = some (some (.ref f14))) (i14 : PySem.W.isFn K (.ref f14) = true)
    (l14 : K.lookup f14 = some ⟨oc14, od14, .func (PySem.W.fnOf "read_bytes" "BitReader.read_bytes" (defArgs s_BitReader_read_bytes) (defBody s_BitReader_read_bytes) (defScope s_BitReader_read_bytes) .none kV14 dc14 pm14 an14 cd14 ct14), sl14⟩) (c14 : PySem.W.codeIn K cd14 "BitReader.read_bytes" = true) (k14 : PySem.W.keepIn K (.ref f14) = true)
    (a15 : PySem.W.findIn K (.ref C_BitReader) "skip_padding" = some (some (.ref f15))) (i15 : PySem.W.isFn K (.ref f15) = true)
    (l15 : K.lookup f15 = some ⟨oc15, od15, .func (PySem.W.fnOf "skip_padding" "BitReader.skip_padding" (defArgs s_BitReader_skip_padding) (defBody s_BitReader_skip_padding) (defScope s_BitReader_skip_padding) .none kV15 dc15 pm15 an15 cd15 ct15), sl15⟩) (c15 : PySem.W.codeIn K cd15 "BitReader.skip_padding" = true) (k15 : PySem.W.keepIn K (.ref f15) = true)
    (a16 : PySem.W.findIn K (.ref C_BitReader) "_rest_of_byte" = some (some (.ref f16))) (i16 : PySem.W.isFn K (.ref f16) = true)
    (l16 : K.lookup f16 = some ⟨oc16, od16, .func (PySem.W.fnOf "_rest_of_byte" "BitReader._rest_of_byte" (defArgs s_BitReader_rest_of_byte) (defBody s_BitReader_rest_of_byte) (defScope s_BitReader_rest_of_byte) .none kV16 dc16 pm16 an16 cd16 ct16), sl16⟩) (c16 : PySem.W.codeIn K cd16 "BitReader._rest_of_byte" = true) (k16 : PySem.W.keepIn K (.ref f16) = true)
    (a17 : PySem.W.findIn K (.ref C_BitReader) "byte_place" = some (some (.ref f17))) (i17 : PySem.W.isFn K (.ref f17) = true)
    (l17 : K.lookup f17 = some ⟨oc17, od17, .func (PySem.W.fnOf "byte_place" "BitReader.byte_place" (defArgs s_BitReader_byte_place) (defBody s_BitReader_byte_place) (defScope s_BitReader_byte_place) .none kV17 dc17 pm17 an17 cd17 ct17), sl17⟩) (c17 : PySem.W.codeIn K cd17 "BitReader.byte_place" = true) (k17 : PySem.W.keepIn K (.ref f17) = true)
    (a18 : PySem.W.findIn K (.ref C_BitReader) "bit_place" = some (some (.ref f18))) (i18 : PySem.W.isFn K (.ref f18) = true)
    (l18 : K.lookup f18 = some ⟨oc18, od18, .func (PySem.W.fnOf "bit_place" "BitReader.bit_place" (defArgs s_BitReader_bit_place) (defBody s_BitReader_bit_place) (defScope s_BitReader_bit_place) .none kV18 dc18 pm18 an18 cd18 ct18), sl18⟩) (c18 : PySem.W.codeIn K cd18 "BitReader.bit_place" = true) (k18 : PySem.W.keepIn K (.ref f18) = true)
    (a19 : PySem.W.findIn K (.ref C_BitReader) "aligned" = some (some (.ref f19))) (i19 : PySem.W.isFn K (.ref f19) = true)
    (l19 : K.lookup f19 = some ⟨oc19, od19, .func (PySem.W.fnOf "aligned" "BitReader.aligned" (defArgs s_BitReader_aligned) (defBody s_BitReader_aligned) (defScope s_BitReader_aligned) .none kV19 dc19 pm19 an19 cd19 ct19), sl19⟩) (c19 : PySem.W.codeIn K cd19 "BitReader.aligned" = true) (k19 : PySem.W.keepIn K (.ref f19) = true)
    (a20 : PySem.W.nsIn K mainGlobals "_law_draw" = some (some (.ref f20)))
    (l20 : K.lookup f20 = some ⟨oc20, od20, .func (PySem.W.fnOf "_law_draw" "_law_draw" (defArgs s_law_draw) (defBody s_law_draw) (defScope s_law_draw) .none kV20 dc20 pm20 an20 cd20 ct20), sl20⟩) (c20 : PySem.W.codeIn K cd20 "_law_draw" = true) (k20 : PySem.W.keepIn K (.ref f20) = true)
    (a21 : PySem.W.nsIn K mainGlobals "_law_cell" = some (some (.ref f21)))
    (l21 : K.lookup f21 = some ⟨oc21, od21, .func (PySem.W.fnOf "_law_cell" "_law_cell" (defArgs s_law_cell) (defBody s_law_cell) (defScope s_law_cell) .none kV21 dc21 pm21 an21 cd21 ct21), sl21⟩) (c21 : PySem.W.codeIn K cd21 "_law_cell" = true) (k21 : PySem.W.keepIn K (.ref f21) = true)
    (a22 : PySem.W.nsIn K mainGlobals "_law_field" = some (some (.ref f22)))
    (l22 : K.lookup f22 = some ⟨oc22, od22, .func (PySem.W.fnOf "_law_field" "_law_field" (defArgs s_law_field) (defBody s_law_field) (defScope s_law_field) .none kV22 dc22 pm22 an22 cd22 ct22), sl22⟩) (c22 : PySem.W.codeIn K cd22 "_law_field" = true) (k22 : PySem.W.keepIn K (.ref f22) = true)
    (a23 : PySem.W.nsIn K mainGlobals "_law_write" = some (some (.ref f23)))
    (l23 : K.lookup f23 = some ⟨oc23, od23, .func (PySem.W.fnOf "_law_write" "_law_write" (defArgs s_law_write) (defBody s_law_write) (defScope s_law_write) .none kV23 dc23 pm23 an23 cd23 ct23), sl23⟩) (c23 : PySem.W.codeIn K cd23 "_law_write" = true) (k23 : PySem.W.keepIn K (.ref f23) = true)
    (a24 : PySem.W.nsIn K mainGlobals "_law_read" = some (some (.ref f24)))
    (l24 : K.lookup f24 = some ⟨oc24, od24, .func (PySem.W.fnOf "_law_read" "_law_read" (defArgs s_law_read) (defBody s_law_read) (defScope s_law_read) .none kV24 dc24 pm24 an24 cd24 ct24), sl24⟩) (c24 : PySem.W.codeIn K cd24 "_law_read" = true) (k24 : PySem.W.keepIn K (.ref f24) = true)
    (a25 : PySem.W.nsIn K mainGlobals "_law_ends" = some (some (.ref f25)))
    (l25 : K.lookup f25 = some ⟨oc25, od25, .func (PySem.W.fnOf "_law_ends" "_law_ends" (defArgs s_law_ends) (defBody s_law_ends) (defScope s_law_ends) .none kV25 dc25 pm25 an25 cd25 ct25), sl25⟩) (c25 : PySem.W.codeIn K cd25 "_law_ends" = true) (k25 : PySem.W.keepIn K (.ref f25) = true)
    (a26 : PySem.W.nsIn K mainGlobals "law" = some (some (.ref f26)))
    (l26 : K.lookup f26 = some ⟨oc26, od26, .func (PySem.W.fnOf "law" "law" (defArgs s_law) (defBody s_law) (defScope s_law) .none kV26 dc26 pm26 an26 cd26 ct26), sl26⟩) (c26 : PySem.W.codeIn K cd26 "law" = true) (k26 : PySem.W.keepIn K (.ref f26) = true)
    (aC_BitWriter : PySem.W.nsIn K mainGlobals "BitWriter" = some (some (.ref C_BitWriter)))
    (pg_BitWriter : PySem.W.plainGet K C_BitWriter Str.empty = true) (hd_BitWriter : PySem.W.hasDictIn K C_BitWriter = true) (po_BitWriter : PySem.W.plainOver K C_BitWriter = true) (sa_BitWriter : PySem.W.findIn K (.ref C_BitWriter) "__setattr__" = some (some (.builtin "object.__setattr__"))) (mk_BitWriter : PySem.W.makesIn K C_BitWriter = true) (kc_BitWriter : PySem.W.keepIn K (.ref C_BitWriter) = true)
    (n_BitWriter_whole : PySem.W.findIn K (.ref C_BitWriter) "_whole" = some none)
    (n_BitWriter_held : PySem.W.findIn K (.ref C_BitWriter) "_held" = some none)
    (n_BitWriter_held_bits : PySem.W.findIn K (.ref C_BitWriter) "_held_bits" = some none)
    (aC_BitReader : PySem.W.nsIn K mainGlobals "BitReader" = some (some (.ref C_BitReader)))
    (pg_BitReader : PySem.W.plainGet K C_BitReader Str.empty = true) (hd_BitReader : PySem.W.hasDictIn K C_BitReader = true) (po_BitReader : PySem.W.plainOver K C_BitReader = true) (sa_BitReader : PySem.W.findIn K (.ref C_BitReader) "__setattr__" = some (some (.builtin "object.__setattr__"))) (mk_BitReader : PySem.W.makesIn K C_BitReader = true) (kc_BitReader : PySem.W.keepIn K (.ref C_BitReader) = true)
    (n_BitReader_data : PySem.W.findIn K (.ref C_BitReader) "_data" = some none)
    (n_BitReader_position : PySem.W.findIn K (.ref C_BitReader) "_position" = some none)
    (aC_MonochordError : PySem.W.nsIn K mainGlobals "MonochordError" = some (some (.ref C_MonochordError)))
    (xl_MonochordError : K.lookup C_MonochordError = some (excClassObj xn_MonochordError xq_MonochordError C_MonochordError xN_MonochordError xb_MonochordError [.type "ValueError", .type "Exception", .type "BaseException", .type "object"] true xs_MonochordError xu_MonochordError xa_MonochordError xc_MonochordError xd_MonochordError xj0_MonochordError xj1_MonochordError (some (.str "MonochordError" xt_MonochordError)) xj3_MonochordError xj5_MonochordError "ValueError.__new__")) (xsa_MonochordError : PySem.W.findIn K (.ref C_MonochordError) "__setattr__" = some (some (.builtin "object.__setattr__"))) (xty_MonochordError : PySem.W.typeIn K (.ref C_MonochordError) = some (.type "type")) (xkc_MonochordError : PySem.W.keepIn K (.ref C_MonochordError) = true) (xic_MonochordError : PySem.W.findIn K (.ref C_MonochordError) "__init__" = some (some (.ref f1))) (xnp_MonochordError : PySem.W.findIn K (.ref C_MonochordError) "place" = some none) (xnn_MonochordError : PySem.W.findIn K (.ref C_MonochordError) "name" = some none) (xhg_MonochordError : PySem.W.findIn K (.ref C_MonochordError) "__getattribute__" = some (some (.builtin "BaseException.__getattribute__"))) (xhk_MonochordError : PySem.W.findIn K (.ref C_MonochordError) "__getattr__" = some none) (xhs_MonochordError : PySem.W.subIn K (.ref C_MonochordError) (.type "BaseException") = some true) (xhd_MonochordError : PySem.W.hasDictIn K C_MonochordError = true) (xha_MonochordError : PySem.W.findIn K (.ref C_MonochordError) "__class__" = some (some (.builtin "object.__class__"))) (xhn_MonochordError : PySem.W.specialIn K (.builtin "object.__class__") "__get__" = some (some (.builtin "getset_descriptor.__get__"))) (xht_MonochordError : PySem.W.takesIn K (.builtin "object.__class__") = some true) (xhm_MonochordError : PySem.W.mroIn K C_MonochordError (.type "object") = some true) (xrd_MonochordError : PySem.W.readsIn K C_MonochordError (.type "type") = true) (xfc_MonochordError : PySem.W.findCls K (.ref C_MonochordError) (.type "type") "__name__" = some (.get (.builtin "getset_descriptor.__get__") (.builtin "type.__name__") (.ref C_MonochordError) (.type "type")))
    (aC_Truncated : PySem.W.nsIn K mainGlobals "Truncated" = some (some (.ref C_Truncated)))
    (xl_Truncated : K.lookup C_Truncated = some (excClassObj xn_Truncated xq_Truncated C_Truncated xN_Truncated xb_Truncated [.ref C_MonochordError, .type "ValueError", .type "Exception", .type "BaseException", .type "object"] true xs_Truncated xu_Truncated xa_Truncated xc_Truncated xd_Truncated xj0_Truncated xj1_Truncated (some (.str "Truncated" xt_Truncated)) xj3_Truncated xj5_Truncated "ValueError.__new__")) (xsa_Truncated : PySem.W.findIn K (.ref C_Truncated) "__setattr__" = some (some (.builtin "object.__setattr__"))) (xty_Truncated : PySem.W.typeIn K (.ref C_Truncated) = some (.type "type")) (xkc_Truncated : PySem.W.keepIn K (.ref C_Truncated) = true) (xic_Truncated : PySem.W.findIn K (.ref C_Truncated) "__init__" = some (some (.ref f1))) (xnp_Truncated : PySem.W.findIn K (.ref C_Truncated) "place" = some none) (xnn_Truncated : PySem.W.findIn K (.ref C_Truncated) "name" = some none) (xhg_Truncated : PySem.W.findIn K (.ref C_Truncated) "__getattribute__" = some (some (.builtin "BaseException.__getattribute__"))) (xhk_Truncated : PySem.W.findIn K (.ref C_Truncated) "__getattr__" = some none) (xhs_Truncated : PySem.W.subIn K (.ref C_Truncated) (.type "BaseException") = some true) (xhd_Truncated : PySem.W.hasDictIn K C_Truncated = true) (xha_Truncated : PySem.W.findIn K (.ref C_Truncated) "__class__" = some (some (.builtin "object.__class__"))) (xhn_Truncated : PySem.W.specialIn K (.builtin "object.__class__") "__get__" = some (some (.builtin "getset_descriptor.__get__"))) (xht_Truncated : PySem.W.takesIn K (.builtin "object.__class__") = some true) (xhm_Truncated : PySem.W.mroIn K C_Truncated (.type "object") = some true) (xrd_Truncated : PySem.W.readsIn K C_Truncated (.type "type") = true) (xfc_Truncated : PySem.W.findCls K (.ref C_Truncated) (.type "type") "__name__" = some (.get (.builtin "getset_descriptor.__get__") (.builtin "type.__name__") (.ref C_Truncated) (.type "type")))
    (aC_InvalidForm : PySem.W.nsIn K mainGlobals "InvalidForm" = some (some (.ref C_InvalidForm)))
    (xl_InvalidForm : K.lookup C_InvalidForm = some (excClassObj xn_InvalidForm xq_InvalidForm C_InvalidForm xN_InvalidForm xb_InvalidForm [.ref C_MonochordError, .type "ValueError", .type "Exception", .type "BaseException", .type "object"] true xs_InvalidForm xu_InvalidForm xa_InvalidForm xc_InvalidForm xd_InvalidForm xj0_InvalidForm xj1_InvalidForm (some (.str "InvalidForm" xt_InvalidForm)) xj3_InvalidForm xj5_InvalidForm "ValueError.__new__")) (xsa_InvalidForm : PySem.W.findIn K (.ref C_InvalidForm) "__setattr__" = some (some (.builtin "object.__setattr__"))) (xty_InvalidForm : PySem.W.typeIn K (.ref C_InvalidForm) = some (.type "type")) (xkc_InvalidForm : PySem.W.keepIn K (.ref C_InvalidForm) = true) (xic_InvalidForm : PySem.W.findIn K (.ref C_InvalidForm) "__init__" = some (some (.ref f1))) (xnp_InvalidForm : PySem.W.findIn K (.ref C_InvalidForm) "place" = some none) (xnn_InvalidForm : PySem.W.findIn K (.ref C_InvalidForm) "name" = some none) (xhg_InvalidForm : PySem.W.findIn K (.ref C_InvalidForm) "__getattribute__" = some (some (.builtin "BaseException.__getattribute__"))) (xhk_InvalidForm : PySem.W.findIn K (.ref C_InvalidForm) "__getattr__" = some none) (xhs_InvalidForm : PySem.W.subIn K (.ref C_InvalidForm) (.type "BaseException") = some true) (xhd_InvalidForm : PySem.W.hasDictIn K C_InvalidForm = true) (xha_InvalidForm : PySem.W.findIn K (.ref C_InvalidForm) "__class__" = some (some (.builtin "object.__class__"))) (xhn_InvalidForm : PySem.W.specialIn K (.builtin "object.__class__") "__get__" = some (some (.builtin "getset_descriptor.__get__"))) (xht_InvalidForm : PySem.W.takesIn K (.builtin "object.__class__") = some true) (xhm_InvalidForm : PySem.W.mroIn K C_InvalidForm (.type "object") = some true) (xrd_InvalidForm : PySem.W.readsIn K C_InvalidForm (.type "type") = true) (xfc_InvalidForm : PySem.W.findCls K (.ref C_InvalidForm) (.type "type") "__name__" = some (.get (.builtin "getset_descriptor.__get__") (.builtin "type.__name__") (.ref C_InvalidForm) (.type "type")))
    (xti : PySem.W.typeIn K (.ref f1) = some (.type "function"))
    (xsv_MonochordError : PySem.W.subIn K (.ref C_MonochordError) (.type "ValueError") = some true)
    (xsu_MonochordError_MonochordError : PySem.W.subIn K (.ref C_MonochordError) (.ref C_MonochordError) = some true)
    (xsu_MonochordError_Truncated : PySem.W.subIn K (.ref C_MonochordError) (.ref C_Truncated) = some false)
    (xsu_MonochordError_InvalidForm : PySem.W.subIn K (.ref C_MonochordError) (.ref C_InvalidForm) = some false)
    (xsv_Truncated : PySem.W.subIn K (.ref C_Truncated) (.type "ValueError") = some true)
    (xsu_Truncated_MonochordError : PySem.W.subIn K (.ref C_Truncated) (.ref C_MonochordError) = some true)
    (xsu_Truncated_Truncated : PySem.W.subIn K (.ref C_Truncated) (.ref C_Truncated) = some true)
    (xsu_Truncated_InvalidForm : PySem.W.subIn K (.ref C_Truncated) (.ref C_InvalidForm) = some false)
    (xsv_InvalidForm : PySem.W.subIn K (.ref C_InvalidForm) (.type "ValueError") = some true)
    (xsu_InvalidForm_MonochordError : PySem.W.subIn K (.ref C_InvalidForm) (.ref C_MonochordError) = some true)
    (xsu_InvalidForm_Truncated : PySem.W.subIn K (.ref C_InvalidForm) (.ref C_Truncated) = some false)
    (xsu_InvalidForm_InvalidForm : PySem.W.subIn K (.ref C_InvalidForm) (.ref C_InvalidForm) = some true)
    (z_list : PySem.W.nsIn K mainGlobals "list" = some none)
    (z_len : PySem.W.nsIn K mainGlobals "len" = some none)
    (z_range : PySem.W.nsIn K mainGlobals "range" = some none)
    (z_int : PySem.W.nsIn K mainGlobals "int" = some none)
    (z_max : PySem.W.nsIn K mainGlobals "max" = some none)
    (q_MOST_ZEROS : PySem.W.nsIn K mainGlobals "_MOST_ZEROS" = some (some u_MOST_ZEROS)) (r_MOST_ZEROS : RelV (.int (56)) u_MOST_ZEROS)
    : ∃ fd : FuncData, (∀ (s : Shared) (v : Value), BindsTo s fd ⟨[v], []⟩ [("script", v)]) ∧ ∀ base : Heap, K.In base → base.Ns mainGlobals mg → FnOk l.prog w K mg base CX0 6 fa fd ["script"] (sp_law K) := by
  have e := hfa.symm.trans (PySem.W.mg_of X G a26)
  cases e
  have F1 := fun_mk (st := s_MonochordError_init) l1 c1 k1
  have b1 := F1.binds (ps := ["self", "place"]) fun _ _ _ _ _ _ us hl => match us, hl with | [_, _], _ => rfl
  have F2 := fun_mk (st := s_BitWriter_init) l2 c2 k2
  have b2 := F2.binds (ps := ["self"]) fun _ _ _ _ _ _ us hl => match us, hl with | [_], _ => rfl
  have F3 := fun_mk (st := s_BitWriter_write) l3 c3 k3
  have b3 := F3.binds (ps := ["self", "width", "value"]) fun _ _ _ _ _ _ us hl => match us, hl with | [_, _, _], _ => rfl
  have F4 := fun_mk (st := s_BitWriter_write_signed) l4 c4 k4
  have b4 := F4.binds (ps := ["self", "width", "value"]) fun _ _ _ _ _ _ us hl => match us, hl with | [_, _, _], _ => rfl
  have F5 := fun_mk (st := s_BitWriter_write_unary) l5 c5 k5
  have b5 := F5.binds (ps := ["self", "count"]) fun _ _ _ _ _ _ us hl => match us, hl with | [_, _], _ => rfl
  have F6 := fun_mk (st := s_BitWriter_pad) l6 c6 k6
  have b6 := F6.binds (ps := ["self"]) fun _ _ _ _ _ _ us hl => match us, hl with | [_], _ => rfl
  have F7 := fun_mk (st := s_BitWriter_append_bytes) l7 c7 k7
  have b7 := F7.binds (ps := ["self", "data"]) fun _ _ _ _ _ _ us hl => match us, hl with | [_, _], _ => rfl
  have F8 := fun_mk (st := s_BitWriter_byte_list) l8 c8 k8
  have b8 := F8.binds (ps := ["self"]) fun _ _ _ _ _ _ us hl => match us, hl with | [_], _ => rfl
  have F9 := fun_mk (st := s_BitWriter_bits_written) l9 c9 k9
  have b9 := F9.binds (ps := ["self"]) fun _ _ _ _ _ _ us hl => match us, hl with | [_], _ => rfl
  have F10 : FunD K "__init__" "BitReader.__init__" (defArgs s_BitReader_init) (defBody s_BitReader_init) (defScope s_BitReader_init) [V.int 0] [] _ _ := ⟨⟨_, _, _, _, _, _, _, _, _, _, rfl, l10, c10, (.inr ⟨by simp, DT10, _, [du10_0], tn10, rfl, t10, rfl, (.cons rd10_0 .nil)⟩), (.inl rfl)⟩, k10⟩
  obtain ⟨e3_10, v3_10, b3_10⟩ := F10.binds1 (ps := ["self", "data", "at"]) 3 1 (by simp) rfl fun T0 kV doc pm an cdv ct us its hu hi => match us, hu, its, hi with | [_, _, _], _, [_], _ => ⟨_, rfl, rfl⟩
  have F11 := fun_mk (st := s_BitReader_read) l11 c11 k11
  have b11 := F11.binds (ps := ["self", "width"]) fun _ _ _ _ _ _ us hl => match us, hl with | [_, _], _ => rfl
  have F12 := fun_mk (st := s_BitReader_read_signed) l12 c12 k12
  have b12 := F12.binds (ps := ["self", "width"]) fun _ _ _ _ _ _ us hl => match us, hl with | [_, _], _ => rfl
  have F13 := fun_mk (st := s_BitReader_read_unary) l13 c13 k13
  have b13 := F13.binds (ps := ["self"]) fun _ _ _ _ _ _ us hl => match us, hl with | [_], _ => rfl
  have F14 := fun_mk (st := s_BitReader_read_bytes) l14 c14 k14
  have b14 := F14.binds (ps := ["self", "count"]) fun _ _ _ _ _ _ us hl => match us, hl with | [_, _], _ => rfl
  have F15 := fun_mk (st := s_BitReader_skip_padding) l15 c15 k15
  have b15 := F15.binds (ps := ["self"]) fun _ _ _ _ _ _ us hl => match us, hl with | [_], _ => rfl
  have F16 := fun_mk (st := s_BitReader_rest_of_byte) l16 c16 k16
  have b16 := F16.binds (ps := ["self"]) fun _ _ _ _ _ _ us hl => match us, hl with | [_], _ => rfl
  have F17 := fun_mk (st := s_BitReader_byte_place) l17 c17 k17
  have b17 := F17.binds (ps := ["self"]) fun _ _ _ _ _ _ us hl => match us, hl with | [_], _ => rfl
  have F18 := fun_mk (st := s_BitReader_bit_place) l18 c18 k18
  have b18 := F18.binds (ps := ["self"]) fun _ _ _ _ _ _ us hl => match us, hl with | [_], _ => rfl
  have F19 := fun_mk (st := s_BitReader_aligned) l19 c19 k19
  have b19 := F19.binds (ps := ["self"]) fun _ _ _ _ _ _ us hl => match us, hl with | [_], _ => rfl
  have F20 := fun_mk (st := s_law_draw) l20 c20 k20
  have b20 := F20.binds (ps := ["cell", "many", "bound"]) fun _ _ _ _ _ _ us hl => match us, hl with | [_, _, _], _ => rfl
  have F21 := fun_mk (st := s_law_cell) l21 c21 k21
  have b21 := F21.binds (ps := ["script", "k"]) fun _ _ _ _ _ _ us hl => match us, hl with | [_, _], _ => rfl
  have F22 := fun_mk (st := s_law_field) l22 c22 k22
  have b22 := F22.binds (ps := ["cell"]) fun _ _ _ _ _ _ us hl => match us, hl with | [_], _ => rfl
  have F23 := fun_mk (st := s_law_write) l23 c23 k23
  have b23 := F23.binds (ps := ["writer", "field"]) fun _ _ _ _ _ _ us hl => match us, hl with | [_, _], _ => rfl
  have F24 := fun_mk (st := s_law_read) l24 c24 k24
  have b24 := F24.binds (ps := ["reader", "field"]) fun _ _ _ _ _ _ us hl => match us, hl with | [_, _], _ => rfl
  have F25 := fun_mk (st := s_law_ends) l25 c25 k25
  have b25 := F25.binds (ps := ["reader", "size"]) fun _ _ _ _ _ _ us hl => match us, hl with | [_, _], _ => rfl
  have F26 := fun_mk (st := s_law) l26 c26 k26
  have b26 := F26.binds (ps := ["script"]) fun _ _ _ _ _ _ us hl => match us, hl with | [_], _ => rfl
  let T : TX K mg := ⟨f1, _, F1, b1, f2, _, F2, b2, f3, _, F3, b3, f4, _, F4, b4, f5, _, F5, b5, f6, _, F6, b6, f7, _, F7, b7, f8, _, F8, b8, f9, _, F9, b9, f10, _, F10, e3_10, v3_10, b3_10, f11, _, F11, b11, f12, _, F12, b12, f13, _, F13, b13, f14, _, F14, b14, f15, _, F15, b15, f16, _, F16, b16, f17, _, F17, b17, f18, _, F18, b18, f19, _, F19, b19, f20, _, F20, b20, (PySem.W.mg_of X G a20), f21, _, F21, b21, (PySem.W.mg_of X G a21), f22, _, F22, b22, (PySem.W.mg_of X G a22), f23, _, F23, b23, (PySem.W.mg_of X G a23), f24, _, F24, b24, (PySem.W.mg_of X G a24), f25, _, F25, b25, (PySem.W.mg_of X G a25), fa, _, F26, b26, (PySem.W.mg_of X G a26), C_BitWriter, ⟨pg_BitWriter, hd_BitWriter, po_BitWriter, sa_BitWriter⟩, (PySem.W.mg_of X G aC_BitWriter), ⟨mk_BitWriter, a2, i2, kc_BitWriter⟩, ⟨a3, i3, k3⟩, ⟨a4, i4, k4⟩, ⟨a5, i5, k5⟩, ⟨a6, i6, k6⟩, ⟨a7, i7, k7⟩, ⟨a8, i8, k8⟩, ⟨a9, i9, k9⟩, n_BitWriter_whole, n_BitWriter_held, n_BitWriter_held_bits, C_BitReader, ⟨pg_BitReader, hd_BitReader, po_BitReader, sa_BitReader⟩, (PySem.W.mg_of X G aC_BitReader), ⟨mk_BitReader, a10, i10, kc_BitReader⟩, ⟨a11, i11, k11⟩, ⟨a12, i12, k12⟩, ⟨a13, i13, k13⟩, ⟨a14, i14, k14⟩, ⟨a15, i15, k15⟩, ⟨a16, i16, k16⟩, ⟨a17, i17, k17⟩, ⟨a18, i18, k18⟩, ⟨a19, i19, k19⟩, n_BitReader_data, n_BitReader_position, C_MonochordError, (PySem.W.mg_of X G aC_MonochordError), ⟨⟨_, _, _, _, _, _, _, _, _, _, _, _, _, _, _, xl_MonochordError, rfl⟩, xsa_MonochordError, xty_MonochordError, xkc_MonochordError, xic_MonochordError, xnp_MonochordError, xnn_MonochordError, ⟨xhg_MonochordError, xhk_MonochordError, xhs_MonochordError, xhd_MonochordError, xha_MonochordError, xhn_MonochordError, xht_MonochordError, xhm_MonochordError⟩, xrd_MonochordError, xfc_MonochordError⟩, C_Truncated, (PySem.W.mg_of X G aC_Truncated), ⟨⟨_, _, _, _, _, _, _, _, _, _, _, _, _, _, _, xl_Truncated, rfl⟩, xsa_Truncated, xty_Truncated, xkc_Truncated, xic_Truncated, xnp_Truncated, xnn_Truncated, ⟨xhg_Truncated, xhk_Truncated, xhs_Truncated, xhd_Truncated, xha_Truncated, xhn_Truncated, xht_Truncated, xhm_Truncated⟩, xrd_Truncated, xfc_Truncated⟩, C_InvalidForm, (PySem.W.mg_of X G aC_InvalidForm), ⟨⟨_, _, _, _, _, _, _, _, _, _, _, _, _, _, _, xl_InvalidForm, rfl⟩, xsa_InvalidForm, xty_InvalidForm, xkc_InvalidForm, xic_InvalidForm, xnp_InvalidForm, xnn_InvalidForm, ⟨xhg_InvalidForm, xhk_InvalidForm, xhs_InvalidForm, xhd_InvalidForm, xha_InvalidForm, xhn_InvalidForm, xht_InvalidForm, xhm_InvalidForm⟩, xrd_InvalidForm, xfc_InvalidForm⟩, xti, xsv_MonochordError, xsu_MonochordError_MonochordError, xsu_MonochordError_Truncated, xsu_MonochordError_InvalidForm, xsv_Truncated, xsu_Truncated_MonochordError, xsu_Truncated_Truncated, xsu_Truncated_InvalidForm, xsv_InvalidForm, xsu_InvalidForm_MonochordError, xsu_InvalidForm_Truncated, xsu_InvalidForm_InvalidForm, (PySem.W.mg_none_of X G z_list), (PySem.W.mg_none_of X G z_len), (PySem.W.mg_none_of X G z_range), (PySem.W.mg_none_of X G z_int), (PySem.W.mg_none_of X G z_max), u_MOST_ZEROS, (PySem.W.mg_of X G q_MOST_ZEROS), r_MOST_ZEROS⟩
  exact ⟨_, fun s v => .of_eq rfl, fun base _ _ => ok_law T⟩
end K04
open PySem PySem.W PyProof.Rows
set_option maxRecDepth 100000 in
set_option maxHeartbeats 0 in
theorem PySem.Challenge.cw_monochord_k04_whole_fields_come_back_holds : PySem.Challenge.rw_monochord_k04_whole_fields_come_back.Holds := by
  w_on; o_law; k_head; (case hw => w_witness2)
  k_fill
  refine L2.walk_of (l := PySem.Challenge.rw_monochord_k04_whole_fields_come_back) (n := 63) (k := 6) (x := "script") (CX := fun _ => L2.CX0) (sp := fun w => K04.sp_law _) rfl (by decide) rfl ⟨rfl, by decide, by decide⟩ (fun w h Y => PySem.W.kIn_of Y) ?F (fun _ _ a ns hl _ hS => ⟨a, ns, rfl, hS, hl, fun _ => rfl⟩) (fun _ _ _ _ _ h => h)
  case F =>
    intro w mg fa h KX G hmg
    refine' K04.all_mk KX G hmg ?a1 ?i1 ?l1 ?c1 ?k1 ?a2 ?i2 ?l2 ?c2 ?k2 ?a3 ?i3 ?l3 ?c3 ?k3 ?a4 ?i4 ?l4 ?c4 ?k4 ?a5 ?i5 ?l5 ?c5 ?k5 ?a6 ?i6 ?l6 ?c6 ?k6 ?a7 ?i7 ?l7 ?c7 ?k7 ?a8 ?i8 ?l8 ?c8 ?k8 ?a9 ?i9 ?l9 ?c9 ?k9 ?a10 ?i10 ?l10 ?c10 ?k10 ?t10 ?rd10_0 ?a11 ?i11 ?l11 ?c11 ?k11 ?a12 ?i12 ?l12 ?c12 ?k12 ?a13 ?i13 ?l13 ?c13 ?k13 ?a14 ?i14 ?l14 ?c14 ?k14 ?a15 ?i15 ?l15 ?c15 ?k15 ?a16 ?i16 ?l16 ?c16 ?k16 ?a17 ?i17 ?l17 ?c17 ?k17 ?a18 ?i18 ?l18 ?c18 ?k18 ?a19 ?i19 ?l19 ?c19 ?k19 ?a20 ?l20 ?c20 ?k20 ?a21 ?l21 ?c21 ?k21 ?a22 ?l22 ?c22 ?k22 ?a23 ?l23 ?c23 ?k23 ?a24 ?l24 ?c24 ?k24 ?a25 ?l25 ?c25 ?k25 ?a26 ?l26 ?c26 ?k26 ?aC_BitWriter ?pg_BitWriter ?hd_BitWriter ?po_BitWriter ?sa_BitWriter ?mk_BitWriter ?kc_BitWriter ?n_BitWriter_whole ?n_BitWriter_held ?n_BitWriter_held_bits ?aC_BitReader ?pg_BitReader ?hd_BitReader ?po_BitReader ?sa_BitReader ?mk_BitReader ?kc_BitReader ?n_BitReader_data ?n_BitReader_position ?aC_MonochordError ?xl_MonochordError ?xsa_MonochordError ?xty_MonochordError ?xkc_MonochordError ?xic_MonochordError ?xnp_MonochordError ?xnn_MonochordError ?xhg_MonochordError ?xhk_MonochordError ?xhs_MonochordError ?xhd_MonochordError ?xha_MonochordError ?xhn_MonochordError ?xht_MonochordError ?xhm_MonochordError ?xrd_MonochordError ?xfc_MonochordError ?aC_Truncated ?xl_Truncated ?xsa_Truncated ?xty_Truncated ?xkc_Truncated ?xic_Truncated ?xnp_Truncated ?xnn_Truncated ?xhg_Truncated ?xhk_Truncated ?xhs_Truncated ?xhd_Truncated ?xha_Truncated ?xhn_Truncated ?xht_Truncated ?xhm_Truncated ?xrd_Truncated ?xfc_Truncated ?aC_InvalidForm ?xl_InvalidForm ?xsa_InvalidForm ?xty_InvalidForm ?xkc_InvalidForm ?xic_InvalidForm ?xnp_InvalidForm ?xnn_InvalidForm ?xhg_InvalidForm ?xhk_InvalidForm ?xhs_InvalidForm ?xhd_InvalidForm ?xha_InvalidForm ?xhn_InvalidForm ?xht_InvalidForm ?xhm_InvalidForm ?xrd_InvalidForm ?xfc_InvalidForm ?xti ?xsv_MonochordError ?xsu_MonochordError_MonochordError ?xsu_MonochordError_Truncated ?xsu_MonochordError_InvalidForm ?xsv_Truncated ?xsu_Truncated_MonochordError ?xsu_Truncated_Truncated ?xsu_Truncated_InvalidForm ?xsv_InvalidForm ?xsu_InvalidForm_MonochordError ?xsu_InvalidForm_Truncated ?xsu_InvalidForm_InvalidForm ?z_list ?z_len ?z_range ?z_int ?z_max ?q_MOST_ZEROS ?r_MOST_ZEROS
    (case aC_BitWriter => k_is)
    (case aC_BitReader => k_is)
    (case aC_MonochordError => k_is)
    (case aC_Truncated => k_is)
    (case aC_InvalidForm => k_is)
    (case a1 => k_is)
    (case i1 => k_is)
    (case l1 => k_is)
    (case c1 => k_is)
    (case k1 => k_is)
    (case a2 => k_is)
    (case i2 => k_is)
    (case l2 => k_is)
    (case c2 => k_is)
    (case k2 => k_is)
    (case a3 => k_is)
    (case i3 => k_is)
    (case l3 => k_is)
    (case c3 => k_is)
    (case k3 => k_is)
    (case a4 => k_is)
    (case i4 => k_is)
    (case l4 => k_is)
    (case c4 => k_is)
    (case k4 => k_is)
    (case a5 => k_is)
    (case i5 => k_is)
    (case l5 => k_is)
    (case c5 => k_is)
    (case k5 => k_is)
    (case a6 => k_is)
    (case i6 => k_is)
    (case l6 => k_is)
    (case c6 => k_is)
    (case k6 => k_is)
    (case a7 => k_is)
    (case i7 => k_is)
    (case l7 => k_is)
    (case c7 => k_is)
    (case k7 => k_is)
    (case a8 => k_is)
    (case i8 => k_is)
    (case l8 => k_is)
    (case c8 => k_is)
    (case k8 => k_is)
    (case a9 => k_is)
    (case i9 => k_is)
    (case l9 => k_is)
    (case c9 => k_is)
    (case k9 => k_is)
    (case a10 => k_is)
    (case i10 => k_is)
    (case l10 => k_is)
    (case c10 => k_is)
    (case k10 => k_is)
    (case t10 => k_is)
    (case rd10_0 => first | rfl | exact ⟨_, rfl⟩)
    (case a11 => k_is)
    (case i11 => k_is)
    (case l11 => k_is)
    (case c11 => k_is)
    (case k11 => k_is)
    (case a12 => k_is)
    (case i12 => k_is)
    (case l12 => k_is)
    (case c12 => k_is)
    (case k12 => k_is)
    (case a13 => k_is)
    (case i13 => k_is)
    (case l13 => k_is)
    (case c13 => k_is)
    (case k13 => k_is)
    (case a14 => k_is)
    (case i14 => k_is)
    (case l14 => k_is)
    (case c14 => k_is)
    (case k14 => k_is)
    (case a15 => k_is)
    (case i15 => k_is)
    (case l15 => k_is)
    (case c15 => k_is)
    (case k15 => k_is)
    (case a16 => k_is)
    (case i16 => k_is)
    (case l16 => k_is)
    (case c16 => k_is)
    (case k16 => k_is)
    (case a17 => k_is)
    (case i17 => k_is)
    (case l17 => k_is)
    (case c17 => k_is)
    (case k17 => k_is)
    (case a18 => k_is)
    (case i18 => k_is)
    (case l18 => k_is)
    (case c18 => k_is)
    (case k18 => k_is)
    (case a19 => k_is)
    (case i19 => k_is)
    (case l19 => k_is)
    (case c19 => k_is)
    (case k19 => k_is)
    (case a20 => k_is)
    (case l20 => k_is)
    (case c20 => k_is)
    (case k20 => k_is)
    (case a21 => k_is)
    (case l21 => k_is)
    (case c21 => k_is)
    (case k21 => k_is)
    (case a22 => k_is)
    (case l22 => k_is)
    (case c22 => k_is)
    (case k22 => k_is)
    (case a23 => k_is)
    (case l23 => k_is)
    (case c23 => k_is)
    (case k23 => k_is)
    (case a24 => k_is)
    (case l24 => k_is)
    (case c24 => k_is)
    (case k24 => k_is)
    (case a25 => k_is)
    (case l25 => k_is)
    (case c25 => k_is)
    (case k25 => k_is)
    (case a26 => k_is)
    (case l26 => k_is)
    (case c26 => k_is)
    (case k26 => k_is)
    (case pg_BitWriter => k_is)
    (case hd_BitWriter => k_is)
    (case po_BitWriter => k_is)
    (case sa_BitWriter => k_is)
    (case mk_BitWriter => k_is)
    (case kc_BitWriter => k_is)
    (case n_BitWriter_whole => k_is)
    (case n_BitWriter_held => k_is)
    (case n_BitWriter_held_bits => k_is)
    (case pg_BitReader => k_is)
    (case hd_BitReader => k_is)
    (case po_BitReader => k_is)
    (case sa_BitReader => k_is)
    (case mk_BitReader => k_is)
    (case kc_BitReader => k_is)
    (case n_BitReader_data => k_is)
    (case n_BitReader_position => k_is)
    (case xl_MonochordError => k_is)
    (case xsa_MonochordError => k_is)
    (case xty_MonochordError => k_is)
    (case xkc_MonochordError => k_is)
    (case xic_MonochordError => k_is)
    (case xnp_MonochordError => k_is)
    (case xnn_MonochordError => k_is)
    (case xhg_MonochordError => k_is)
    (case xhk_MonochordError => k_is)
    (case xhs_MonochordError => k_is)
    (case xhd_MonochordError => k_is)
    (case xha_MonochordError => k_is)
    (case xhn_MonochordError => k_is)
    (case xht_MonochordError => k_is)
    (case xhm_MonochordError => k_is)
    (case xrd_MonochordError => k_is)
    (case xfc_MonochordError => k_is)
    (case xl_Truncated => k_is)
    (case xsa_Truncated => k_is)
    (case xty_Truncated => k_is)
    (case xkc_Truncated => k_is)
    (case xic_Truncated => k_is)
    (case xnp_Truncated => k_is)
    (case xnn_Truncated => k_is)
    (case xhg_Truncated => k_is)
    (case xhk_Truncated => k_is)
    (case xhs_Truncated => k_is)
    (case xhd_Truncated => k_is)
    (case xha_Truncated => k_is)
    (case xhn_Truncated => k_is)
    (case xht_Truncated => k_is)
    (case xhm_Truncated => k_is)
    (case xrd_Truncated => k_is)
    (case xfc_Truncated => k_is)
    (case xl_InvalidForm => k_is)
    (case xsa_InvalidForm => k_is)
    (case xty_InvalidForm => k_is)
    (case xkc_InvalidForm => k_is)
    (case xic_InvalidForm => k_is)
    (case xnp_InvalidForm => k_is)
    (case xnn_InvalidForm => k_is)
    (case xhg_InvalidForm => k_is)
    (case xhk_InvalidForm => k_is)
    (case xhs_InvalidForm => k_is)
    (case xhd_InvalidForm => k_is)
    (case xha_InvalidForm => k_is)
    (case xhn_InvalidForm => k_is)
    (case xht_InvalidForm => k_is)
    (case xhm_InvalidForm => k_is)
    (case xrd_InvalidForm => k_is)
    (case xfc_InvalidForm => k_is)
    (case xti => k_is)
    (case xsv_MonochordError => k_is)
    (case xsu_MonochordError_MonochordError => k_is)
    (case xsu_MonochordError_Truncated => k_is)
    (case xsu_MonochordError_InvalidForm => k_is)
    (case xsv_Truncated => k_is)
    (case xsu_Truncated_MonochordError => k_is)
    (case xsu_Truncated_Truncated => k_is)
    (case xsu_Truncated_InvalidForm => k_is)
    (case xsv_InvalidForm => k_is)
    (case xsu_InvalidForm_MonochordError => k_is)
    (case xsu_InvalidForm_Truncated => k_is)
    (case xsu_InvalidForm_InvalidForm => k_is)
    (case z_list => k_is)
    (case z_len => k_is)
    (case z_range => k_is)
    (case z_int => k_is)
    (case z_max => k_is)
    (case q_MOST_ZEROS => k_is)
    (case r_MOST_ZEROS => first | rfl | exact ⟨_, rfl⟩)
