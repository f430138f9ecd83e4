import PyProof.Rows.All
import Wide.All
import OpenK.AllK
import Wide.FinOn
import HandS.ForMost
import HandS.Steps
import HandS.Evl
import HandS.IsInst
import HandS.Defaults
import HandS.MakeKwOnly
import HandS.Wide
import HandS.WideBits
import HandS.Walk
import HandS.TryOnly
import HandS.TupAny
import HandS.Text
import PyProof.P3Eq
import HandS.ForExc
import HandS.ExcInit
import HandS.ExcIs
import HandS.ExcField
import HandS.ExcOwn
import HandS.ExcBuiltin
import HandS.ExcCtx
import HandS.HotCalls
import HandS.WordsExc
import KE.KTypeName
import HandS.OwnEq
import PySem.Challenge.RW_monochord_k43_stream_information
set_option Elab.async false
set_option linter.all false
set_option maxRecDepth 100000
set_option maxHeartbeats 4000000
/-! ### own errors: the class's name, an error's class, its fields, isinstance -/
namespace PySem
namespace ExqW
open PySem.W PySem.Calls PyProof.Rows Builtin Builtin.ObjectAttr Builtin.Getset_descriptor
section
variable {prog : Program} {w : World} {A : Around} {E : Value → Shared → Prop} {s : Shared} {K : Frag} {x D C : Addr} {ox : Obj} {R : Result → Shared → Prop}
theorem exq_class {od : Option Obj} {expr : Bool} {Q : Value → Shared → Prop} (hga : findIn K (.ref D) "__getattribute__" = some (some (.builtin "BaseException.__getattribute__"))) (hgt : findIn K (.ref D) "__getattr__" = some none) (hsub : subIn K (.ref D) (.type "BaseException") = some true)
    (hf : findObj K D od "__class__" = some (.bind (.builtin "getset_descriptor.__get__") (.builtin "object.__class__"))) (hm : mroIn K D (.type "object") = some true)
    (X : K.In s.heap) (I : InstAt s.heap x ox D od) (h : Q (.ref D) { s with toks := s.toks + 1 }) : wpAny (model prog w) A (getAttr (.ref x) "__class__" expr) Q E s := by
  obtain ⟨hp, g, d, t, os⟩ := s
  have L0 := I.type (M := model prog w)
  have L1 := looks_findIn (M := model prog w) X hga
  have L2 := looks_findIn (M := model prog w) X hgt
  have L3 := looks_find (M := model prog w) X I hf
  have sub : Looks (model prog w) hp (isInstance (.ref x) (.type "BaseException")) true := L0.andThen (looks_subIn X hsub)
  have hx0 : (expr && onTheHeap (Value.builtin "BaseException.__getattribute__")) = false := by cases expr <;> rfl
  have hx2 : (Value.builtin "BaseException.__getattribute__" == Value.builtin "object.__getattribute__") = false := by decide +kernel
  have hx1 : (onTheHeap (Value.ref D) && Value.builtin "BaseException.__getattribute__" == Value.builtin "object.__getattribute__") = false := by rw [hx2]; rfl
  unfold getAttr getAttrBy
  refine wpAny_bind (wpAny_mkText (wpAny_holding (wpAny_bind (L0.at (wpAny_bind (L1.at ?_))))))
  show wpAny _ _ (if (onTheHeap (Value.ref D) && Value.builtin "BaseException.__getattribute__" == Value.builtin "object.__getattribute__") = true then _ else _) _ _ _
  rw [hx1, if_neg Bool.false_ne_true]
  unfold getAttrByItsOwn hookBefore
  refine wpAny_bind ?_
  rw [if_pos (show onTheHeap (Value.ref D) = true from rfl)]
  refine L2.at ?_
  refine wpAny_bind (wpAny_attempt (wpAny_holding ?_))
  unfold callGetattribute
  rw [hx0, if_neg Bool.false_ne_true]
  unfold boundAndCalled
  rw [PySem.F.excAttr_ValueError.ga.bind (.ref x)]
  refine wpAny_bind (wpAny_pure ?_)
  show wpAny _ _ (call (.builtin "BaseException.__getattribute__") [.ref x, .str "__class__" t]) _ _ _
  refine wpAny_call (codeAny_call_builtin PySem.F.excAttr_ValueError.ga.plain PySem.F.entry_bexc_ga ?_)
  refine @check_slot (model prog w) _ _ ⟨hp, g, d, t + 1, os⟩ "BaseException.__getattribute__" "BaseException" "__getattribute__" (.ref x) [.str "__class__" t] [] _ (by decide +kernel) (by decide +kernel) sub (PySem.F.args_bexc_ga (.ref x) (.str "__class__" t)) ?_
  unfold Builtin.«object.__getattribute__»
  refine wpAny_bind (wpAny_of_eq (a := ((Value.ref x : Value), [Value.str "__class__" t])) (by first | rfl | (simp only [slotArgs]; rfl)) ?_)
  refine wpAny_bind (wpAny_pure (wpAny_bind (L0.at (wpAny_bind (L3.at ?_)))))
  show wpAny _ _ (holding [Value.builtin "object.__class__"] (call (.builtin "getset_descriptor.__get__") [.builtin "object.__class__", .ref x, .ref D]) >>= ret) _ _ _
  refine wpAny_bind (wpAny_holding (wpAny_call (class_get (s := ⟨hp, g, d, t + 1, os⟩) (ox := ox) (od := od) X I hm ?_)))
  refine wpAny_pure ?_
  show wpAny _ _ (handedOut (.ref D)) _ _ _
  rw [handedOut_of (v := .ref D) rfl]
  first
    | exact wpAny_pure (wpAny_pure h)
    | exact wpAny_pure h
    | exact wpAny_pure (wpAny_bind (wpAny_pure (wpAny_pure h)))
theorem exq_classQ {od : Option Obj} {Q : Option Value → Shared → Prop} (hga : findIn K (.ref D) "__getattribute__" = some (some (.builtin "BaseException.__getattribute__"))) (hgt : findIn K (.ref D) "__getattr__" = some none) (hsub : subIn K (.ref D) (.type "BaseException") = some true)
    (hf : findObj K D od "__class__" = some (.bind (.builtin "getset_descriptor.__get__") (.builtin "object.__class__"))) (hm : mroIn K D (.type "object") = some true)
    (X : K.In s.heap) (I : InstAt s.heap x ox D od) (h : Q (some (.ref D)) { s with toks := s.toks + 1 }) : wpAny (model prog w) A (getAttr? (.ref x) "__class__") Q E s := by
  obtain ⟨hp, g, d, t, os⟩ := s
  have L0 := I.type (M := model prog w)
  have L1 := looks_findIn (M := model prog w) X hga
  have L2 := looks_findIn (M := model prog w) X hgt
  have L3 := looks_find (M := model prog w) X I hf
  have sub : Looks (model prog w) hp (isInstance (.ref x) (.type "BaseException")) true := L0.andThen (looks_subIn X hsub)
  have hx0 : (false && onTheHeap (Value.builtin "BaseException.__getattribute__")) = false := rfl
  have hx2 : (Value.builtin "BaseException.__getattribute__" == Value.builtin "object.__getattribute__") = false := by decide +kernel
  have hx1 : (onTheHeap (Value.ref D) && Value.builtin "BaseException.__getattribute__" == Value.builtin "object.__getattribute__") = false := by rw [hx2]; rfl
  unfold getAttr? getAttrBy? getAttrBy
  refine wpAny_bind (wpAny_mkText (wpAny_bind (wpAny_attempt (wpAny_holding (wpAny_bind (L0.at (wpAny_bind (L1.at ?_))))))))
  show wpAny _ _ (if (onTheHeap (Value.ref D) && Value.builtin "BaseException.__getattribute__" == Value.builtin "object.__getattribute__") = true then _ else _) _ _ _
  rw [hx1, if_neg Bool.false_ne_true]
  unfold getAttrByItsOwn hookBefore
  refine wpAny_bind ?_
  rw [if_pos (show onTheHeap (Value.ref D) = true from rfl)]
  refine L2.at ?_
  refine wpAny_bind (wpAny_attempt (wpAny_holding ?_))
  unfold callGetattribute
  rw [hx0, if_neg Bool.false_ne_true]
  unfold boundAndCalled
  rw [PySem.F.excAttr_ValueError.ga.bind (.ref x)]
  refine wpAny_bind (wpAny_pure ?_)
  show wpAny _ _ (call (.builtin "BaseException.__getattribute__") [.ref x, .str "__class__" t]) _ _ _
  refine wpAny_call (codeAny_call_builtin PySem.F.excAttr_ValueError.ga.plain PySem.F.entry_bexc_ga ?_)
  refine @check_slot (model prog w) _ _ ⟨hp, g, d, t + 1, os⟩ "BaseException.__getattribute__" "BaseException" "__getattribute__" (.ref x) [.str "__class__" t] [] _ (by decide +kernel) (by decide +kernel) sub (PySem.F.args_bexc_ga (.ref x) (.str "__class__" t)) ?_
  unfold Builtin.«object.__getattribute__»
  refine wpAny_bind (wpAny_of_eq (a := ((Value.ref x : Value), [Value.str "__class__" t])) (by first | rfl | (simp only [slotArgs]; rfl)) ?_)
  refine wpAny_bind (wpAny_pure (wpAny_bind (L0.at (wpAny_bind (L3.at ?_)))))
  show wpAny _ _ (holding [Value.builtin "object.__class__"] (call (.builtin "getset_descriptor.__get__") [.builtin "object.__class__", .ref x, .ref D]) >>= ret) _ _ _
  refine wpAny_bind (wpAny_holding (wpAny_call (class_get (s := ⟨hp, g, d, t + 1, os⟩) (ox := ox) (od := od) X I hm ?_)))
  refine wpAny_pure ?_
  show wpAny _ _ (handedOut (.ref D)) _ _ _
  rw [handedOut_of (v := .ref D) rfl]
  first
    | exact wpAny_pure (wpAny_pure h)
    | exact wpAny_pure h
    | exact wpAny_pure (wpAny_bind (wpAny_pure (wpAny_pure h)))
theorem exq_dga (d tp : Value) (C : Addr) : descrGetArgs ⟨[d, .ref C, tp], []⟩ = pure (d, some (.ref C), given tp) := by kernel_rfl
theorem exq_name_get {tp v : Value} {oC : Obj} (X : K.In s.heap) (ht : typeIn K (.ref C) = some (.type "type")) (hC : K.lookup C = some oC) (hv : (oC.slots[2]?).join = some v) (h : R (.ok (.ret v)) s) :
    codeAny (model prog w) A (.call (.builtin "getset_descriptor.__get__") ⟨[.builtin "type.__name__", .ref C, tp], []⟩) R s := by
  obtain ⟨hh, g, dr, t, os⟩ := s
  have L0 : Looks (model prog w) hh (typeOf (.ref C)) (.type "type") := looks_typeIn X ht
  have L1 : Looks (model prog w) hh (isSubtype (.type "type") (.type "type")) true := Looks.of_pure (by rw [isSubtype_type]; kernel_rfl)
  refine codeAny_call_builtin KF.slot_gs.plain KF.entry_gs (KF.slot_gs.check _ _ _ _ _ _ _ _ ktyn_type (KF.args_gs _ _ _) ?_)
  unfold Builtin.«getset_descriptor.__get__» descrGet
  rw [exq_dga]
  refine wpAny_bind (wpAny_pure ?_)
  unfold descrGetter descrCheckInstance descrNameAndClass isInstance
  simp only [ktyn_owner]
  repeat lk
  refine ⟨Code.quiet_builtin _ (by decide +kernel), codeAny_builtin ktyn_entry ?_⟩
  unfold Builtin.«type.__name__»
  dsimp only
  unfold Builtin.keptObject slotAt
  dsimp only
  refine wpAny_bind (wpAny_bind (wpAny_loadPart (X _ _ hC) (wpAny_pure ?_)))
  rw [hv]
  dsimp only
  unfold ret
  first
    | exact wpAny_bind (wpAny_pure (wpAny_pure h))
    | exact wpAny_pure h
    | exact wpAny_bind (wpAny_pure h)
theorem exq_name {oC : Obj} {v : Value} {expr : Bool} {Q : Value → Shared → Prop} (X : K.In s.heap) (hr : readsIn K C (.type "type") = true)
    (e : findCls K (.ref C) (.type "type") "__name__" = some (.get (.builtin "getset_descriptor.__get__") (.builtin "type.__name__") (.ref C) (.type "type"))) (ht : typeIn K (.ref C) = some (.type "type")) (hC : K.lookup C = some oC) (hv : (oC.slots[2]?).join = some v) (hh : handedIn v = true)
    (h : Q v { s with toks := s.toks + 1 }) : wpAny (model prog w) A (getAttr (.ref C) "__name__" expr) Q E s :=
  cls_bind X hr e (wpAny_call (exq_name_get (s := { s with toks := s.toks + 1 }) X ht hC hv (handed_on hh h)))
theorem exq_kitx {od : Option Obj} (hga : findIn K (.ref D) "__getattribute__" = some (some (.builtin "BaseException.__getattribute__"))) (hgt : findIn K (.ref D) "__getattr__" = some none) (hsub : subIn K (.ref D) (.type "BaseException") = some true) (hdct : hasDictIn K D = true)
    (hf : findObj K D od "__class__" = some (.bind (.builtin "getset_descriptor.__get__") (.builtin "object.__class__"))) (hm : mroIn K D (.type "object") = some true) :
    KitX K (.ref x) (.ref D) (fun h => InstAt h x ox D od) where
  ty := fun _ _ _ I => I.type
  it := fun _ _ X _ => by
    obtain ⟨cdD, hcD, _⟩ := any_some hdct
    unfold clsIn at hcD
    split at hcD
    · rename_i c' d' cd' sl' ho
      intro A' Q' E' s' k q
      unfold isType loadHead
      exact wpAny_bind (wpAny_loadPart (k _ _ (X _ _ ho)) (wpAny_pure q))
    · cases hcD
  ne := fun h tp dd its n sl X htp => by
    obtain ⟨cdD, hcD, _⟩ := any_some hdct
    refine Bool.eq_false_iff.mpr fun q => ?_
    have e : D = tp := Value.ref.inj (beq_iff_eq.mp q)
    subst e
    unfold clsIn at hcD
    split at hcD
    · rename_i c' d' cd' sl' ho
      have z := (X _ _ ho).symm.trans htp
      cases z
    · cases hcD
  ca := fun X I k => exq_classQ hga hgt hsub hf hm X I k
end
end ExqW
end PySem
namespace L2
open PySem PySem.Spec PyProof.Rows
/-- what the written part says of an own error class at C (its name nm), whose __init__ stands at fI -/
structure ExK (K : PySem.W.Frag) (C fI : Addr) (nm : Str) : Prop where
  cls : ∃ n q N bs bm sn sub ab col dd k0 k1 tk k3 k5, K.lookup C = some (excClassObj n q C N bs bm true sn sub ab col dd k0 k1 (some (.str nm tk)) k3 k5 "ValueError.__new__") ∧ PySem.HandSPX.refsVE bm = true
  sa : PySem.W.findIn K (.ref C) "__setattr__" = some (some (.builtin "object.__setattr__"))
  tyC : PySem.W.typeIn K (.ref C) = some (.type "type")
  kC : PySem.W.keepIn K (.ref C) = true
  iC : PySem.W.findIn K (.ref C) "__init__" = some (some (.ref fI))
  nP : PySem.W.findIn K (.ref C) "place" = some none
  nN : PySem.W.findIn K (.ref C) "name" = some none
  ex : ExcC K C
  rd : PySem.W.readsIn K C (.type "type") = true
  fc : PySem.W.findCls K (.ref C) (.type "type") "__name__" = some (.get (.builtin "getset_descriptor.__get__") (.builtin "type.__name__") (.ref C) (.type "type"))
section
variable {K : PySem.W.Frag} {C fI : Addr} {nm : Str}
theorem ExK.ox (T : ExK K C fI nm) : OexC K C := by
  obtain ⟨n, q, N, bs, bm, sn, sub, ab, col, dd, k0, k1, tk, k3, k5, h1, h2⟩ := T.cls
  exact ⟨⟨n, q, N, bs, bm, sn, sub, ab, col, dd, k0, k1, _, k3, k5, h1, h2⟩, T.sa, T.ex.hs, T.tyC, T.kC⟩
theorem ExK.xf (T : ExK K C fI nm) : XfC K C := ⟨T.ex.hg, T.ex.hk, T.ex.hs, T.ex.hd⟩
end
theorem ExcC.fo {K : PySem.W.Frag} {C : Addr} (T : ExcC K C) (od : Obj) : PySem.W.findObj K C (some od) "__class__" = some (.bind (.builtin "getset_descriptor.__get__") (.builtin "object.__class__")) :=
  PySem.W.findObj_data (by obtain ⟨cd, hc, _⟩ := PySem.W.any_some T.hd; show (PySem.W.clsIn K C).isSome = true; rw [hc]; rfl) T.ha T.hn T.ht
/-- self.__class__.__name__ of an error that is being made -/
def tCN (K : PySem.W.Frag) (te : TE) : TE := fun σ H Q => te σ H fun x H1 => ∃ (a C dx : Addr) (fs : List (Str × V)) (fI : Addr) (nm : Str), x = .ref a ∧ ExK K C fI nm ∧ H1 a = some (exo a C (some dx)) ∧ H1 dx = some (exd dx fs) ∧ Q (.str nm) H1
theorem pe_clsname {X : Cx} {o : Expr} {te : TE} {p1 p2 : Pos} (he : PE X o te) (hb1 : attributeBase o "__class__" X.env (eval o X.env) = eval o X.env := by rfl)
    (hb2 : attributeBase (.Attribute o "__class__" p1) "__name__" X.env (eval (.Attribute o "__class__" p1) X.env) = eval (.Attribute o "__class__" p1) X.env := by rfl) :
    PE X (.Attribute (.Attribute o "__class__" p1) "__name__" p2) (tCN X.K te) := by
  refine ⟨fun pins s σ H Q I h => ?_⟩
  refine attr_of hb2 (attr_of hb1 (thn (he.run pins s σ H _ I h) fun u s1 ⟨x, H1, I1, rx, a, C, dx, fs, fI, nm, ex, T, ea, ed, q⟩ => ?_))
  subst ex
  obtain rfl : u = Value.ref a := rx
  obtain ⟨t1, ho⟩ := exo_at I1.hok ea
  obtain ⟨mA, hns, rel⟩ := exd_at I1.hok ed
  obtain ⟨oD, _, _, hoD, _, _⟩ := id hns
  have J : PySem.W.InstAt s1.heap a { cls := .ref C, dict := some dx, data := .fields #[.ref t1, .none, .none, .none, .bool false, .none] } C (some oD) := ⟨ho, rfl, rfl, hoD⟩
  obtain ⟨n, qq, N, bs, bm, sn, sub, ab, col, dd, k0, k1, tk, k3, k5, hC, hbm⟩ := T.cls
  refine PySem.ExqW.exq_class T.ex.hg T.ex.hk T.ex.hs (T.ex.fo oD) T.ex.hm I1.kIn J ?_
  refine PySem.ExqW.exq_name (s := { s1 with toks := s1.toks + 1 }) I1.kIn T.rd T.fc T.tyC hC rfl rfl ?_
  exact ⟨.str nm, H1, I1.tok _, ⟨tk, rfl⟩, q⟩
/-- error.f in an except suite: the class is known when it runs -/
def tXfA (K : PySem.W.Frag) (a : Addr) (cls : Value) (d : Option Addr) (f : Str) (te : TE) : TE := fun σ H Q => te σ H fun x H1 => x = .ref a ∧ ∃ C, cls = .ref C ∧ XfC K C ∧ PySem.W.findIn K (.ref C) f = some none ∧ ∃ (dd : Addr) (fs : List (Str × V)) (v : V), d = some dd ∧ H1 dd = some (.xd fs) ∧ fs.lookup f = some v ∧ Q v H1
theorem pe_xfA {X : Cx} {a : Addr} {oe : Obj} {cls : Value} {d : Option Addr} {pn : List (Addr × Obj)} {e : Expr} {te : TE} {pos : Pos} {n : Str}
    (hz : Zc cls d oe) (hf : ∃ vs, oe.data = .fields vs) (he : PE (X.suite a ((a, oe) :: pn)) e te) (hb : attributeBase e n X.env (eval e X.env) = eval e X.env := by rfl) :
    PE (X.suite a ((a, oe) :: pn)) (.Attribute e n pos) (tXfA X.K a cls d n te) := by
  refine ⟨fun pins s σ H Q I h => ?_⟩
  refine attr_of hb (thn (he.run pins s σ H _ I h) fun u s1 hh => ?_)
  obtain ⟨x, H1, I1, rx, ex, C, ec, T, hno, dd, fs, v, ed, ea, l, q⟩ := hh
  subst ex
  obtain rfl : u = Value.ref a := rx
  subst ec
  subst ed
  obtain ⟨ha, _⟩ := I1.pin (a, oe) (List.mem_append_left _ List.mem_cons_self)
  obtain ⟨vs, hd⟩ := hf
  have hx : ObjOk X.prog X.w H1 s1.heap dd (.xd fs) := I1.hok dd _ ea
  obtain ⟨mA, hns, hr⟩ := hx
  obtain ⟨od, ho, hl⟩ := lookIn_ns hns
  obtain ⟨u, hu, ru⟩ := RelO.some_of (v := v) (o := mA n) (by rw [← l]; exact hr n)
  have J : PySem.W.InstAt s1.heap a oe C (some od) := ⟨ha, hz.1, by unfold PySem.W.notCls; rw [hd] <;> rfl, by rw [hz.2]; exact ho⟩
  exact HandSPX.exc_get I1.kIn J T.ga T.gg T.exC (PySem.W.findObj_own T.hdC hno rfl (by rw [hl, hu])) (handed_of ru) ⟨v, H1, I1.tok _, ru, q⟩
/-- isinstance(error, c) in an except suite -/
def rIsA (K : PySem.W.Frag) (cls : Value) (d : Option Addr) (a : Addr) : List V → Hp → VK → Prop := fun xs H Q => ∃ (C : Addr) (c : V) (cv : Value) (b : Bool) (dd : Addr) (fs : List (Str × V)), cls = .ref C ∧ ExcC K C ∧ d = some dd ∧ H dd = some (.xd fs) ∧ xs = [.ref a, c] ∧ (∀ u, RelV c u → u = cv) ∧ PySem.W.kitOne K (.ref C) cv = some b ∧ Q (.bl b) H
theorem call_isA {X : Cx} {a : Addr} {oe : Obj} {cls : Value} {d : Option Addr} {pn : List (Addr × Obj)} (hz : Zc cls d oe) (hf : ∃ vs, oe.data = .fields vs) : CallR (X.suite a ((a, oe) :: pn)) (.builtin "isinstance") (rIsA X.K cls d a) := by
  intro pins s σ H xs us Q I r h
  obtain ⟨C, c, cv, b, dd, fs, ec, T, ed, ea, rfl, hcv, e, q⟩ := h
  subst ec
  subst ed
  cases r with
  | cons rx rr =>
    cases rr with
    | cons rt rr =>
      cases rr
      cases rx
      have ecv := hcv _ rt
      subst ecv
      obtain ⟨hget, _⟩ := I.pin (a, oe) (List.mem_append.mpr (.inl List.mem_cons_self))
      obtain ⟨vs, hv⟩ := hf
      have hx : ObjOk X.prog X.w H s.heap dd (.xd fs) := I.hok dd _ ea
      obtain ⟨mA, ⟨od, es, ep, ho, hl⟩, hr⟩ := hx
      have J : PySem.W.InstAt s.heap a oe C (some od) := ⟨hget, hz.1, by unfold PySem.W.notCls; rw [hv] <;> rfl, by rw [hz.2]; exact ho⟩
      exact PySem.W.kia_one (PySem.ExqW.exq_kitx T.hg T.hk T.hs T.hd (T.fo od) T.hm) I.kIn J e (fun z => nomatch z) fun tk => ⟨.bl b, H, I.kept (t' := tk) fun _ _ z => z, rfl, q⟩
/-! ### calls that may let an error out -/
section
variable {X : Cx} {CX : CXT} {k : Nat} {f C : Addr} {fd : FuncData} {ps : List Str} {sp : Sp} {dvs : List V} {ds : List Value} {E : St → XK} {x m : Str} {p pos apos : Pos} {e o : Expr} {es : List Expr} {ta : TE} {t : TA}
theorem run_fnD {pins : List (Addr × Obj)} {σ : St} {H : Hp} {s : Shared} {Q : VK} {us : List Value} {vs : List V} (F : FnOk X.prog X.w X.K X.mg X.base CX k f fd ps sp) (hr : Room k X.A) (hb : Binds X.K fd ps ds) (hd : Vals dvs ds) (hx : PassesAt CX X σ (E σ))
    (I : Inv X pins σ H s) (r : Vals vs us) (h : sp (vs ++ dvs) H Q (E σ)) : wpAny (model X.prog X.w) X.A (call (.ref f) us) (EP X pins σ Q) X.xe s := by
  have r2 : Vals (vs ++ dvs) (us ++ ds) := r.append hd
  have hl : (us ++ ds).length = ps.length := by rw [← r2.length]; exact F.len _ _ _ _ h
  refine wpAny_call (codeAny_mono (F.run X.A X.stack s H ⟨us, []⟩ (us ++ ds) (vs ++ dvs) Q (E σ) hr I.env0 (hb s us I.kIn hl) r2 h) fun r s' hq => ?_)
  cases r with
  | error e => exact hx pins H s e s' I hq
  | ok fl =>
    cases fl with
    | ret u => exact I.after hq
    | next => exact False.elim hq
    | brk => exact False.elim hq
    | cont => exact False.elim hq
def tCallX (sp : Sp) (dvs : List V) (E : St → XK) (t : TA) : TE := fun σ H Q => t σ H fun vs H1 => sp (vs ++ dvs) H1 Q (E σ)
theorem pe_callX (F : FnOk X.prog X.w X.K X.mg X.base CX k f fd ps sp) (hr : Room k X.A) (hg : Gl X x) (hm : X.mg x = some (.ref f)) (hk : PySem.W.keepIn X.K (.ref f) = true) (hb : Binds X.K fd ps ds) (hd : Vals dvs ds) (hx : ∀ σ, PassesAt CX X σ (E σ))
    (ha : PA X (e :: es) t) (hdb : (x == ("__debug__" : Str)) = false := by decide) (he : starEach (e :: es) X.env = (false, eval e X.env) :: starEach es X.env := by rfl) (hpl : (backTo pos (starEach es X.env)).any (·.1) = false := by rfl) :
    PE X (.Call (.Name x p) (e :: es) [] pos) (tCallX sp dvs E t) := by
  refine ⟨fun pins s σ H Q I h => ?_⟩
  refine wpAny_Call_Name_kw (ld_glob I hg hm ?_ hdb)
  refine PySem.W.callWith_K (h₀ := X.base) I.ok.mod.kin hk (thn (ha.run pos pins s σ H _ I h) fun us s1 ⟨vs, H1, I1, r, q⟩ => ⟨I1.kIn, ?_⟩) he hpl
  exact run_fnD F hr hb hd (hx σ) I1 r q
/-- o.m(..) -/
def tMethX (C : Addr) (m : Str) (sp : Sp) (dvs : List V) (E : St → XK) (ta : TE) (t : TA) : TE := fun σ H Q => ta σ H fun x H1 => ∃ a dx fs, x = .ref a ∧ H1 a = some (.ins C dx fs) ∧ fs.lookup m = none ∧
  t σ H1 fun vs H2 => sp (x :: (vs ++ dvs)) H2 Q (E σ)
theorem pe_methX {pl : Sem Bool} (he : PE X o ta) (c : Cls X.K C) (hm : Meth X.K C m f) (F : FnOk X.prog X.w X.K X.mg X.base CX k f fd ps sp) (hr : Room k X.A) (hb : Binds X.K fd ps ds) (hd : Vals dvs ds) (hx : ∀ σ, PassesAt CX X σ (E σ)) (ha : PA X (e :: es) t)
    (hst : starEach (e :: es) X.env = (false, eval e X.env) :: starEach es X.env := by rfl) (hpl : (backTo pos (starEach es X.env)).any (·.1) = false := by rfl)
    (ht : eval (.Call (.Attribute o m apos) (e :: es) [] pos) X.env = (do
      let ov ← eval o X.env
      standAt apos.atName
      let (f, first) ← holding [ov] (getMethod ov m pl)
      callWith pos f first (backTo pos (starEach (e :: es) X.env)) (backToKw pos (keywordEach [] X.env))) := by rfl) :
    PE X (.Call (.Attribute o m apos) (e :: es) [] pos) (tMethX C m sp dvs E ta t) := by
  refine ⟨fun pins s σ H Q I h => ?_⟩
  refine PySem.W.methodCall_KW (pl := pl) (thn (he.run pins s σ H _ I h) fun u s1 ⟨x, H1, I1, rx, a, dx, fs, ex, ea, l, q⟩ => ?_) ht
  subst ex
  obtain rfl : u = Value.ref a := rx
  refine getmeth_ok I1 ea c hm l ?_
  refine PySem.W.callWith_K (first := [.ref a]) (h₀ := X.base) I.ok.mod.kin hm.kp (thn (ha.run pos pins s1 σ H1 _ I1 q) fun us s2 ⟨vs, H2, I2, r, q2⟩ => ⟨I2.kIn, ?_⟩) hst hpl
  exact run_fnD (us := .ref a :: us) (vs := .ref a :: vs) F hr hb hd (hx σ) I2 (.cons rfl r) q2
theorem pe_methX0 {pl : Sem Bool} (he : PE X o ta) (c : Cls X.K C) (hm : Meth X.K C m f) (F : FnOk X.prog X.w X.K X.mg X.base CX k f fd ps sp) (hr : Room k X.A) (hb : Binds X.K fd ps ds) (hd : Vals dvs ds) (hx : ∀ σ, PassesAt CX X σ (E σ))
    (ht : eval (.Call (.Attribute o m apos) [] [] pos) X.env = (do
      let ov ← eval o X.env
      standAt apos.atName
      let (f, first) ← holding [ov] (getMethod ov m pl)
      callWith pos f first (backTo pos (starEach [] X.env)) (backToKw pos (keywordEach [] X.env))) := by rfl) :
    PE X (.Call (.Attribute o m apos) [] [] pos) (tMethX C m sp dvs E ta tNil) := by
  refine ⟨fun pins s σ H Q I h => ?_⟩
  refine PySem.W.methodCall_KW (pl := pl) (thn (he.run pins s σ H _ I h) fun u s1 ⟨x, H1, I1, rx, a, dx, fs, ex, ea, l, q⟩ => ?_) ht
  subst ex
  obtain rfl : u = Value.ref a := rx
  refine getmeth_ok I1 ea c hm l ?_
  exact PySem.W.callWith_K0 (first := [.ref a]) I1.kIn hm.kp (run_fnD (us := [.ref a]) (vs := [.ref a]) F hr hb hd (hx σ) I1 (.cons rfl .nil) q)
end
/-! ### readings -/
def ErrD (H : Hp) (d : Addr) (nm : Str) (n : Int) : Prop := H d = some (.xd [("name", .str nm), ("place", .int n)])
theorem ErrD.ex {H H' : Hp} {d : Addr} {nm : Str} {n : Int} (e : Evl.Ex H H') (h : ErrD H d nm n) : ErrD H' d nm n := e _ _ h
def sp_einit (K : PySem.W.Frag) : Sp := fun vs H Q _ => ∃ (a C fI : Addr) (nm : Str) (n : Int), vs = [.ref a, .int n] ∧ ExK K C fI nm ∧ H a = some (exo a C none) ∧
  ∀ dx H', H dx = none → dx ≠ a → (∀ b o, b ≠ a → H b = some o → H' b = some o) → H' a = some (exo a C (some dx)) → H' dx = some (exd dx [("name", .str nm), ("place", .int n)]) → Q .non H'
theorem mk_err {K : PySem.W.Frag} {C fI : Addr} {nm : Str} {σ : St} {H : Hp} {ta : TA} {n : Int} {Q : XK} (T : ExK K C fI nm) (h : Evl.EvA ta σ H [.int n]) (k : ∀ H' d, H d = none → Evl.Ex H H' → ErrD H' d nm n → Q (.ref C) (some d) H') : tMkO C (sp_einit K) [] ta σ H Q := by
  refine h H (Evl.Ex.refl H) _ fun H1 e1 => ⟨Nat.le_of_ble_eq_true rfl, fun a ha => ⟨a, C, fI, nm, n, rfl, T, upd_same, fun dx H2 hdx ne keep h2a h2d => ⟨rfl, dx, _, h2a, h2d, by rwa [upd_ne ne] at hdx, ?_⟩⟩⟩
  have hdx1 : H1 dx = none := by rwa [upd_ne ne] at hdx
  refine k _ dx (by cases hh : H dx with | none => rfl | some o => rw [e1 _ _ hh] at hdx1; cases hdx1) (fun b o hb => ?_) upd_same
  have hb1 := e1 _ _ hb
  have nb : b ≠ a := fun z => by rw [z, ha] at hb1; cases hb1
  have nd : b ≠ dx := fun z => by rw [z, hdx1] at hb1; cases hb1
  rw [upd_ne nd, del_ne nb]
  exact keep b o nb (by rw [upd_ne nb]; exact hb1)
end L2
namespace L2
open PySem PySem.Spec PyProof.Rows
/-! ### errors whose context is kept (L2N): calls within an except suite -/
theorem passN {X : Cx} : Passes (L2N.CX X.prog X.w) X E0 := fun _ _ _ _ _ _ _ h => by
  obtain ⟨_, _, _, _, _, _, _, _, _, _, _, _, z⟩ := h
  exact z.elim
theorem passH0 {X : Cx} {σ : St} : PassesAt CX0 X σ E0 := fun _ _ _ _ _ _ h => h.elim
theorem takesN0 {X : Cx} : L2N.Takes X (fun _ _ _ _ => False) := fun _ _ x => by
  obtain ⟨_, _, _, _, _, _, _, _, _, _, _, _, _, _, _, _, z⟩ := x
  exact z.elim
section
variable {P : Program} {w : World} {K : PySem.W.Frag} {mg : Str → Option Value} {base : Heap}
theorem Fun.okN {x qual : Str} {st : Stmt} {f : Addr} {fd : FuncData} {N ps : List Str} {k : Nat} {sp : Sp} (F : Fun K x qual st f fd) (S : FnScope N ps (defScope st)) (len : ∀ vs H Q E, sp vs H Q E → vs.length = ps.length)
    (hbody : ∀ (cdv : Value) (A : Around) (outer : List Env) (s : Shared) (H : Hp) (vs : List V) (Q : VK) (E : XK), Room k (A.deeper (envOfC qual (defScope st) s.heap.objs.size f cdv)) → sp vs H Q E →
      ∃ t, PSs (cxOf (L2N.CX P w) P w K mg base N qual (defScope st) f cdv A outer s H E) (defBody st) t ∧ t { nx := fun _ H' => Q .non H', rt := Q } (start N vs) H) : FnOk P w K mg base (L2N.CX P w) (k + 1) f fd ps sp := by
  obtain ⟨_, _, _, _, _, _, cdv, _, _, rfl, lk, hcd⟩ := F.ex
  exact fn_of lk hcd S len fun A outer s H vs Q E => hbody cdv A outer s H vs Q E
/-- a def that is called while an exception is handled -/
theorem Fun.okH {x qual : Str} {st : Stmt} {f : Addr} {fd : FuncData} {N ps : List Str} {k : Nat} {sp : Sp} (F : Fun K x qual st f fd) (S : FnScope N ps (defScope st)) (len : ∀ vs H Q E, sp vs H Q E → vs.length = ps.length)
    (hbody : ∀ (cdv : Value) (A : Around) (outer : List Env) (s : Shared) (H : Hp) (vs : List V) (Q : VK) (E : XK) (p : Addr × Obj), L2H.RoomH k (A.deeper (envOfC qual (defScope st) s.heap.objs.size f cdv)) → sp vs H Q E →
      ∃ t, PSs (L2H.cxH CX0 P w K mg base N qual (defScope st) f cdv A outer s H E p) (defBody st) t ∧ t { nx := fun _ H' => Q .non H', rt := Q } (start N vs) H) : L2H.FnH P w K mg base CX0 (k + 1) f fd ps sp := by
  obtain ⟨_, _, _, _, _, _, cdv, _, _, rfl, lk, hcd⟩ := F.ex
  exact L2H.fn_ofH lk hcd S len fun A outer s H vs Q E p _ hr hsp => hbody cdv A outer s H vs Q E p hr hsp
end
theorem hot_of {X : Cx} {a : Addr} {oe : Obj} {cls : Value} {d : Option Addr} {pn : List (Addr × Obj)} (hz : L2N.Zn cls d oe) (hf : ∃ vs, oe.data = .fields vs) : L2H.HotC (X.suite a ((a, oe) :: pn)) := by
  obtain ⟨vs, e⟩ := hf
  exact ⟨(a, oe), ⟨rfl, vs, e, hz.2.2 vs e⟩, List.mem_cons_self⟩
theorem roomH_suite {X : Cx} {a : Addr} {pn : List (Addr × Obj)} {j k : Nat} (r : Room k X.A) (h : j ≤ k) : L2H.RoomH j (X.suite a pn).A := ⟨by have := r.dp; show X.A.depth + _ + 5 < _; omega, by have := r.un; show X.A.units + _ + 200 < _; omega⟩
section
variable {X : Cx} {CX : CXT} {k : Nat} {f C : Addr} {fd : FuncData} {ps : List Str} {sp : Sp} {dvs : List V} {ds : List Value} {E : St → XK} {x m : Str} {p pos apos : Pos} {e o : Expr} {es : List Expr} {ta : TE} {t : TA}
/-- o.m() while an exception is handled -/
theorem pe_methH0 {pl : Sem Bool} (he : PE X o ta) (c : Cls X.K C) (hm : Meth X.K C m f) (F : L2H.FnH X.prog X.w X.K X.mg X.base CX k f fd ps sp) (hr : L2H.RoomH k X.A) (hc : L2H.HotC X) (hb : Binds X.K fd ps []) (hx : ∀ σ, PassesAt CX X σ (E σ))
    (ht : eval (.Call (.Attribute o m apos) [] [] pos) X.env = (do
      let ov ← eval o X.env
      standAt apos.atName
      let (f, first) ← holding [ov] (getMethod ov m pl)
      callWith pos f first (backTo pos (starEach [] X.env)) (backToKw pos (keywordEach [] X.env))) := by rfl) :
    PE X (.Call (.Attribute o m apos) [] [] pos) (tMethX C m sp [] E ta tNil) := by
  refine ⟨fun pins s σ H Q I h => ?_⟩
  refine PySem.W.methodCall_KW (pl := pl) (thn (he.run pins s σ H _ I h) fun u s1 ⟨x, H1, I1, rx, a, dx, fs, ex, ea, l, q⟩ => ?_) ht
  subst ex
  obtain rfl : u = Value.ref a := rx
  refine getmeth_ok I1 ea c hm l ?_
  exact PySem.W.callWith_K0 (first := [.ref a]) I1.kIn hm.kp (L2H.run_fnH (us := [.ref a]) (vs := [.ref a]) F hr hc hb (hx σ) I1 (.cons rfl .nil) q)
/-- C(e, ..): an own error, made where nothing is handled -/
theorem pmkN_oex {CX : CXT} {x : Str} {C fI : Addr} {k : Nat} {fd : FuncData} {ps : List Str} {sp : Sp} {ds : List Value} {dvs : List V} (T : OexC X.K C) (iC : PySem.W.findIn X.K (.ref C) "__init__" = some (some (.ref fI))) (tI : PySem.W.typeIn X.K (.ref fI) = some (.type "function"))
    (F1 : FnOk X.prog X.w X.K X.mg X.base CX k fI fd ps sp) (hr : Room (k + 1) X.A) (hb : Binds X.K fd ps ds) (hd : Vals dvs ds) (hx : Passes CX X (fun _ _ _ => False)) (hg : Gl X x) (hm : X.mg x = some (.ref C)) (ha : PA X (e :: es) t)
    (hdb : (x == ("__debug__" : Str)) = false := by decide) (he : starEach (e :: es) X.env = (false, eval e X.env) :: starEach es X.env := by rfl) (hpl : (backTo pos (starEach es X.env)).any (·.1) = false := by rfl) :
    L2N.PMk X (.Call (.Name x p) (e :: es) [] pos) (tMkO C sp dvs t) := fun pins s σ H Q I h => by
  obtain ⟨_, _, _, _, bm, _, _, _, _, _, _, _, _, _, _, hC, hbm⟩ := T.cls
  refine wpAny_Call_Name_kw (ld_glob I hg hm (PySem.W.callWith_K (h₀ := X.base) I.ok.mod.kin T.kC (thn (ha.run pos pins s σ H _ I h) fun us s1 ⟨vs, H1, I1, r1, hz, q1⟩ => ⟨I1.kIn, ?_⟩) he hpl) hdb)
  show wpAny _ _ (call (.ref C) us) _ _ _
  obtain ⟨hp, g, dr, tk, os⟩ := s1
  obtain ⟨i, hi⟩ : ∃ i, i = hp.objs.size + 1 := ⟨_, rfl⟩
  have hsz : hp.objs.size ≤ i := by omega
  have hq := q1 i (I1.hok.fresh hsz)
  obtain ⟨G, hG⟩ : ∃ G, G = (hp.push (PySem.W.kdv_tup us)).push (PySem.HandSPX.excO C hp.objs.size) := ⟨_, rfl⟩
  have kk : ∀ b o, hp.get? b = some o → G.get? b = some o := fun b o z => by rw [hG]; exact Heap.get?_push_of_some _ (Heap.get?_push_of_some _ z)
  have I2 : Inv X pins σ (upd H1 i (exo i C none)) ⟨G, g, dr, tk, os⟩ := I1.laid (t' := tk) kk hsz (exo_ok (by rw [hG, hi]; heap_get))
  have r2 : Vals (V.ref i :: (vs ++ dvs)) (Value.ref i :: (us ++ ds)) := .cons rfl (r1.append hd)
  have hl : (Value.ref i :: us ++ ds).length = ps.length := (r2.length.symm.trans (F1.len _ _ _ _ hq))
  refine wpAny_call (PySem.HandSPX.call_own F.excBase_ValueError (fun Y => PySem.HandSPX.refsVE_contains Y bm hbm) (I1.kIn _ _ hC) (PySem.W.looks_findIn I1.kIn iC) (fun self => PySem.W.bind_fn I1.kIn self tI) (by rw [← Paired.length r1, sizeLine_eq]; omega) ?_)
  have F2 := F1.run _ X.stack _ _ ⟨Value.ref i :: us, []⟩ (Value.ref i :: (us ++ ds)) _ _ (fun _ _ _ => False) (hr.make C us []) (I2.env0.make C us []) (hb _ (Value.ref i :: us) I2.kIn hl) r2 hq
  subst hi
  subst hG
  refine codeAny_mono F2 fun r s' hq' => ?_
  cases r with
  | error er => exact hx pins σ _ _ er s' I2 hq'
  | ok fl =>
    cases fl with
    | ret u =>
      obtain ⟨v, H2, os2, bare2, un2, hok2, rv, ev, d, fs, ea, ed, hd1, q2⟩ := hq'
      subst ev
      obtain ⟨h2, g2, d2, t2, os'⟩ := s'
      obtain ⟨t0, G', J, kG, ge, hoe, na⟩ := mk_end0 (d2 := d2) (t2 := t2) I1 hsz kk un2 hok2 os2 bare2 ea ed hd1
      exact ⟨rv, _, _, _, ⟨G', g2, d2, t2, os'⟩, _, .ref C, some d, rfl, J, kG, ge, hoe, ⟨rfl, rfl, fun ws hw => by cases hw; rfl⟩, rfl, rfl, na, rfl, bare2, raises_own T.exC T.tyC, q2⟩
    | next => exact False.elim hq'
    | brk => exact False.elim hq'
    | cont => exact False.elim hq'
end
end L2

namespace K43
open PySem PySem.Spec PyProof.Rows L2 Evl
def topS (i : Nat) : Stmt := PySem.Challenge.pw_monochord_k43_stream_information.main.body.getD i (.Pass ⟨0, 0, 0, 0⟩)
abbrev s_MonochordError_init : Stmt := inClass (topS 2) 0
theorem sc_MonochordError_init : FnScope ["self", "place"] ["self", "place"] (defScope s_MonochordError_init) := ⟨rfl, rfl, rfl, by decide +kernel, rfl, by decide +kernel, by decide +kernel⟩
abbrev s_BitWriter_init : Stmt := inClass (topS 7) 0
theorem sc_BitWriter_init : FnScope ["self"] ["self"] (defScope s_BitWriter_init) := ⟨rfl, rfl, rfl, by decide +kernel, rfl, by decide +kernel, by decide +kernel⟩
abbrev s_BitWriter_write : Stmt := inClass (topS 7) 1
theorem sc_BitWriter_write : FnScope ["self", "width", "value", "held", "held_bits"] ["self", "width", "value"] (defScope s_BitWriter_write) := ⟨rfl, rfl, rfl, by decide +kernel, rfl, by decide +kernel, by decide +kernel⟩
abbrev s_BitWriter_append_bytes : Stmt := inClass (topS 7) 5
theorem sc_BitWriter_append_bytes : FnScope ["self", "data", "byte"] ["self", "data"] (defScope s_BitWriter_append_bytes) := ⟨rfl, rfl, rfl, by decide +kernel, rfl, by decide +kernel, by decide +kernel⟩
abbrev s_BitWriter_byte_list : Stmt := inClass (topS 7) 6
theorem sc_BitWriter_byte_list : FnScope ["self"] ["self"] (defScope s_BitWriter_byte_list) := ⟨rfl, rfl, rfl, by decide +kernel, rfl, by decide +kernel, by decide +kernel⟩
abbrev s_BitReader_init : Stmt := inClass (topS 8) 0
theorem sc_BitReader_init : FnScope ["self", "data", "at"] ["self", "data", "at"] (defScope s_BitReader_init) := ⟨rfl, rfl, rfl, by decide +kernel, rfl, by decide +kernel, by decide +kernel⟩
abbrev s_BitReader_read : Stmt := inClass (topS 8) 1
theorem sc_BitReader_read : FnScope ["self", "width", "data", "start", "stop", "last", "value", "byte"] ["self", "width"] (defScope s_BitReader_read) := ⟨rfl, rfl, rfl, by decide +kernel, rfl, by decide +kernel, by decide +kernel⟩
abbrev s_BitReader_read_bytes : Stmt := inClass (topS 8) 4
theorem sc_BitReader_read_bytes : FnScope ["self", "count", "data", "place", "_"] ["self", "count"] (defScope s_BitReader_read_bytes) := ⟨rfl, rfl, rfl, by decide +kernel, rfl, by decide +kernel, by decide +kernel⟩
abbrev s_BitReader_byte_place : Stmt := inClass (topS 8) 9
theorem sc_BitReader_byte_place : FnScope ["self"] ["self"] (defScope s_BitReader_byte_place) := ⟨rfl, rfl, rfl, by decide +kernel, rfl, by decide +kernel, by decide +kernel⟩
abbrev s_BitReader_aligned : Stmt := inClass (topS 8) 11
theorem sc_BitReader_aligned : FnScope ["self"] ["self"] (defScope s_BitReader_aligned) := ⟨rfl, rfl, rfl, by decide +kernel, rfl, by decide +kernel, by decide +kernel⟩
abbrev s_StreamInfo_init : Stmt := inClass (topS 13) 0
theorem sc_StreamInfo_init : FnScope ["self", "least_block", "greatest_block", "least_frame", "greatest_frame", "rate", "channel_count", "depth", "length", "digest"] ["self", "least_block", "greatest_block", "least_frame", "greatest_frame", "rate", "channel_count", "depth", "length", "digest"] (defScope s_StreamInfo_init) := ⟨rfl, rfl, rfl, by decide +kernel, rfl, by decide +kernel, by decide +kernel⟩
abbrev s_StreamInfo_fields : Stmt := inClass (topS 13) 1
theorem sc_StreamInfo_fields : FnScope ["self"] ["self"] (defScope s_StreamInfo_fields) := ⟨rfl, rfl, rfl, by decide +kernel, rfl, by decide +kernel, by decide +kernel⟩
abbrev s_StreamInfo_fixed_size : Stmt := inClass (topS 13) 2
theorem sc_StreamInfo_fixed_size : FnScope ["self"] ["self"] (defScope s_StreamInfo_fixed_size) := ⟨rfl, rfl, rfl, by decide +kernel, rfl, by decide +kernel, by decide +kernel⟩
abbrev s_StreamInfo_eq : Stmt := inClass (topS 13) 3
theorem sc_StreamInfo_eq : FnScope ["self", "other"] ["self", "other"] (defScope s_StreamInfo_eq) := ⟨rfl, rfl, rfl, by decide +kernel, rfl, by decide +kernel, by decide +kernel⟩
abbrev s_read_streaminfo : Stmt := topS 14
theorem sc_read_streaminfo : FnScope ["data", "start", "stop", "reader", "least_block", "greatest_block", "least_frame", "greatest_frame", "rate", "channel_count", "depth", "length", "digest"] ["data", "start", "stop"] (defScope s_read_streaminfo) := ⟨rfl, rfl, rfl, by decide +kernel, rfl, by decide +kernel, by decide +kernel⟩
abbrev s_write_streaminfo : Stmt := topS 15
theorem sc_write_streaminfo : FnScope ["info", "writer"] ["info"] (defScope s_write_streaminfo) := ⟨rfl, rfl, rfl, by decide +kernel, rfl, by decide +kernel, by decide +kernel⟩
abbrev s_check_blocks : Stmt := topS 16
theorem sc_check_blocks : FnScope ["least_block", "greatest_block", "start"] ["least_block", "greatest_block", "start"] (defScope s_check_blocks) := ⟨rfl, rfl, rfl, by decide +kernel, rfl, by decide +kernel, by decide +kernel⟩
abbrev s_law_is_integer : Stmt := topS 18
theorem sc_law_is_integer : FnScope ["actual"] ["actual"] (defScope s_law_is_integer) := ⟨rfl, rfl, rfl, by decide +kernel, rfl, by decide +kernel, by decide +kernel⟩
abbrev s_law_refill : Stmt := topS 19
theorem sc_law_refill : FnScope ["script", "k", "cell"] ["script", "k"] (defScope s_law_refill) := ⟨rfl, rfl, rfl, by decide +kernel, rfl, by decide +kernel, by decide +kernel⟩
abbrev s_law_draw : Stmt := topS 20
theorem sc_law_draw : FnScope ["state", "script", "size", "digit"] ["state", "script", "size"] (defScope s_law_draw) := ⟨rfl, rfl, rfl, by decide +kernel, rfl, by decide +kernel, by decide +kernel⟩
abbrev s_law_wide : Stmt := topS 21
theorem sc_law_wide : FnScope ["state", "script", "size", "kind"] ["state", "script", "size"] (defScope s_law_wide) := ⟨rfl, rfl, rfl, by decide +kernel, rfl, by decide +kernel, by decide +kernel⟩
abbrev s_law_junk : Stmt := topS 22
theorem sc_law_junk : FnScope ["state", "script", "count", "k"] ["state", "script", "count"] (defScope s_law_junk) := ⟨rfl, rfl, rfl, by decide +kernel, rfl, by decide +kernel, by decide +kernel⟩
abbrev s_law_is_bytes : Stmt := topS 23
theorem sc_law_is_bytes : FnScope ["actual", "byte"] ["actual"] (defScope s_law_is_bytes) := ⟨rfl, rfl, rfl, by decide +kernel, rfl, by decide +kernel, by decide +kernel⟩
abbrev s_law_number_bytes : Stmt := topS 24
theorem sc_law_number_bytes : FnScope ["number", "count", "k"] ["number", "count"] (defScope s_law_number_bytes) := ⟨rfl, rfl, rfl, by decide +kernel, rfl, by decide +kernel, by decide +kernel⟩
abbrev s_law_fields : Stmt := topS 25
theorem sc_law_fields : FnScope ["state", "script", "least_block", "greatest_block", "least_frame", "greatest_frame", "rate", "channels", "depth", "length", "digest"] ["state", "script"] (defScope s_law_fields) := ⟨rfl, rfl, rfl, by decide +kernel, rfl, by decide +kernel, by decide +kernel⟩
abbrev s_law_body : Stmt := topS 26
theorem sc_law_body : FnScope ["row", "number"] ["row"] (defScope s_law_body) := ⟨rfl, rfl, rfl, by decide +kernel, rfl, by decide +kernel, by decide +kernel⟩
abbrev s_law_made : Stmt := topS 27
theorem sc_law_made : FnScope ["row"] ["row"] (defScope s_law_made) := ⟨rfl, rfl, rfl, by decide +kernel, rfl, by decide +kernel, by decide +kernel⟩
abbrev s_law_same : Stmt := topS 28
theorem sc_law_same : FnScope ["actual", "row", "k"] ["actual", "row"] (defScope s_law_same) := ⟨rfl, rfl, rfl, by decide +kernel, rfl, by decide +kernel, by decide +kernel⟩
abbrev s_law : Stmt := topS 29
theorem sc_law : FnScope ["script", "state", "row", "other", "k", "before", "behind", "digest", "handed", "info", "body", "data", "kept", "back", "told", "spoil"] ["script"] (defScope s_law) := ⟨rfl, rfl, rfl, by decide +kernel, rfl, by decide +kernel, by decide +kernel⟩
theorem hu64 {A : Around} {k : Nat} (hr : Room k A) : A.units + 64 < cLine := hr.units
/-! ### short words for readings -/
theorem ret_eq {v w : V} {H H' : Hp} {Q : VK} (k : RetV v H Q) (ex : Ex H H') (e : w = v) : Q w H' := e ▸ k H' ex
/-- isinstance(x, T), T a built-in class -/
theorem ev_isi {K : PySem.W.Frag} {σ : L2.St} {H : Hp} {ta : TE} {x : V} {t : String} {T : String} {b : Bool} (ha : Ev ta σ H x) (ht : ∀ H1, Ex H H1 → TyX K H1 x (.type t)) (hk : kitB t T = some b) :
    Ev (tCB (rIsi K) (tCons ta (tCons (tC (.ty T)) tNil))) σ H (.bl b) :=
  ev_cb (ea_cons ha (ea_cons ev_c ea_nil)) fun H1 e Q q => ⟨x, .ty T, _, _, b, rfl, .ty T, ht H1 e, kit_ty hk, q H1 (Ex.refl H1)⟩
theorem isi_int {K : PySem.W.Frag} {H : Hp} {i : Int} : ∀ H1, Ex H H1 → TyX K H1 (V.int i) (.type "int") := fun _ _ => .base (.int _)
theorem isi_bl {K : PySem.W.Frag} {H : Hp} {b : Bool} : ∀ H1, Ex H H1 → TyX K H1 (V.bl b) (.type "bool") := fun _ _ => .base (.bl _)
theorem isi_non {K : PySem.W.Frag} {H : Hp} : ∀ H1, Ex H H1 → TyX K H1 V.non (.type "NoneType") := fun _ _ => .base .non
theorem isi_lst {K : PySem.W.Frag} {H : Hp} {a : Addr} {xs : List V} (h : H a = some (.lst xs)) : ∀ H1, Ex H H1 → TyX K H1 (V.ref a) (.type "list") := fun _ e => .base (.lst (e _ _ h))
theorem isi_tup {K : PySem.W.Frag} {H : Hp} {a : Addr} {xs : List V} (h : H a = some (.tup xs)) : ∀ H1, Ex H H1 → TyX K H1 (V.ref a) (.type "tuple") := fun _ e => .base (.tup (e _ _ h))
theorem kit_ii : kitB "int" "int" = some true := by decide +kernel
theorem kit_ib : kitB "int" "bool" = some false := by decide +kernel
theorem kit_bb : kitB "bool" "bool" = some true := by decide +kernel
theorem kit_bi : kitB "bool" "int" = some true := by decide +kernel
theorem kit_ll : kitB "list" "list" = some true := by decide +kernel
theorem kit_tt : kitB "tuple" "tuple" = some true := by decide +kernel
theorem ev_isiI {K : PySem.W.Frag} {σ : L2.St} {H : Hp} {ta : TE} {i : Int} (ha : Ev ta σ H (.int i)) : Ev (tCB (rIsi K) (tCons ta (tCons (tC (.ty "int")) tNil))) σ H (.bl true) := ev_isi ha isi_int kit_ii
theorem ev_isiB {K : PySem.W.Frag} {σ : L2.St} {H : Hp} {ta : TE} {i : Int} (ha : Ev ta σ H (.int i)) : Ev (tCB (rIsi K) (tCons ta (tCons (tC (.ty "bool")) tNil))) σ H (.bl false) := ev_isi ha isi_int kit_ib
theorem ev_isiL {K : PySem.W.Frag} {σ : L2.St} {H : Hp} {ta : TE} {a : Addr} {xs : List V} (ha : Ev ta σ H (.ref a)) (h : H a = some (.lst xs)) : Ev (tCB (rIsi K) (tCons ta (tCons (tC (.ty "list")) tNil))) σ H (.bl true) := ev_isi ha (isi_lst h) kit_ll
theorem ev_isiBB {K : PySem.W.Frag} {σ : L2.St} {H : Hp} {ta : TE} {b : Bool} (ha : Ev ta σ H (.bl b)) : Ev (tCB (rIsi K) (tCons ta (tCons (tC (.ty "bool")) tNil))) σ H (.bl true) := ev_isi ha isi_bl kit_bb
theorem ev_chain {σ : L2.St} {H : Hp} {ta tb tc : TE} {g g' : Int → Int → Bool} {a b c : Int} (ha : Ev ta σ H (.int a)) (hb : Ev tb σ H (.int b)) (hc : Ev tc σ H (.int c)) :
    Ev (tChain (rI0 fun i j => .bl (g i j)) (rI0 fun i j => .bl (g' i j)) ta tb tc) σ H (.bl (g a b && g' b c)) := fun H1 e Q q =>
  ha H1 e _ fun H2 e2 => hb H2 (e.trans e2) _ fun H3 e3 => ⟨a, b, rfl, rfl, g a b, rfl, by
    cases hg : g a b with
    | true =>
      rw [if_pos rfl]
      rw [hg, Bool.true_and] at q
      exact hc H3 ((e.trans e2).trans e3) _ fun H4 e4 => ⟨b, c, rfl, rfl, q H4 ((e2.trans e3).trans e4)⟩
    | false =>
      rw [if_neg (by decide)]
      rw [hg, Bool.false_and] at q
      exact q H3 (e2.trans e3)⟩
theorem ev_isN {σ : L2.St} {H : Hp} {ta : TE} {x : V} (ha : Ev ta σ H x) : Ev (tOp rIsN ta (tC .non)) σ H (.bl (decide (x = .non))) := fun H1 e Q q => ha H1 e _ fun H2 e2 => ⟨rfl, q H2 e2⟩
theorem ev_notN {σ : L2.St} {H : Hp} {ta : TE} {x : V} (ha : Ev ta σ H x) : Ev (tOp rNotN ta (tC .non)) σ H (.bl (!decide (x = .non))) := fun H1 e Q q => ha H1 e _ fun H2 e2 => ⟨rfl, q H2 e2⟩
theorem ev_min2 {σ : L2.St} {H : Hp} {ta tb : TE} {i j : Int} (ha : Ev ta σ H (.int i)) (hb : Ev tb σ H (.int j)) :
    Ev (tCB (fun xs H Q => ∃ i j, xs = [.int i, .int j] ∧ Q (.int (if j < i then j else i)) H) (tCons ta (tCons tb tNil))) σ H (.int (if j < i then j else i)) :=
  ev_cb (ea_cons ha (ea_cons hb ea_nil)) fun H1 _ _ q => ⟨i, j, rfl, q H1 (Ex.refl H1)⟩
theorem ev_negI {σ : L2.St} {H : Hp} {ta : TE} {i : Int} (ha : Ev ta σ H (.int i)) : Ev (tUn (rU fun i => .int (-i)) ta) σ H (.int (-i)) := ev_un ha ru_neg
theorem ev_I0 {σ : L2.St} {H : Hp} {ta tb : TE} {g : Int → Int → V} {i j : Int} (ha : Ev ta σ H (.int i)) (hb : Ev tb σ H (.int j)) : Ev (tOp (rI0 g) ta tb) σ H (g i j) := ev_op ha hb rv_I0
theorem ev_I {σ : L2.St} {H : Hp} {ta tb : TE} {C : Int → Int → Prop} {g : Int → Int → V} {i j : Int} (ha : Ev ta σ H (.int i)) (hb : Ev tb σ H (.int j)) (hc : C i j) : Ev (tOp (rI C g) ta tb) σ H (g i j) := ev_op ha hb (rv_I hc)
theorem ev_eq {σ : L2.St} {H : Hp} {ta tb : TE} {x y : V} (ha : Ev ta σ H x) (hb : Ev tb σ H y) (hs : scal x y = true) : Ev (tOp rEq ta tb) σ H (.bl (decide (x = y))) := ev_op ha hb (rv_eq hs)
theorem ev_ne {σ : L2.St} {H : Hp} {ta tb : TE} {x y : V} (ha : Ev ta σ H x) (hb : Ev tb σ H y) (hs : scal x y = true) : Ev (tOp rNe ta tb) σ H (.bl (!decide (x = y))) := ev_op ha hb (rv_ne hs)
theorem et_B' {σ : L2.St} {H : Hp} {te : TE} {x : V} {b : Bool} (h : Ev te σ H x) (e : x = .bl b) : EvT (tB te) σ H b := et_B (e ▸ h)
theorem dec_lt {a b : Nat} : decide ((a : Int) < (b : Int)) = decide (a < b) := by
  by_cases h : a < b
  · rw [decide_eq_true h, decide_eq_true (by omega)]
  · rw [decide_eq_false h, decide_eq_false (by omega)]
theorem int_at {ns : List Int} {i : Nat} {x : V} (hx : (ns.map V.int)[i]? = some x) : ∃ n, ns[i]? = some n ∧ i < ns.length ∧ x = V.int n := by
  rw [List.getElem?_map] at hx
  cases en : ns[i]? with
  | none => rw [en] at hx; cases hx
  | some n => rw [en] at hx; exact ⟨n, rfl, (List.getElem?_eq_some_iff.mp en).1, (Option.some.inj hx).symm⟩
theorem at_int {ns : List Int} {i : Nat} {n : Int} (h : ns[i]? = some n) : (ns.map V.int)[i]? = some (V.int n) := by rw [List.getElem?_map, h]; rfl
local macro_rules | `(tactic| walk_at "side") => `(tactic| first
  | omega | (show CMul _ _; unfold CMul; omega) | (show CDiv _ _; unfold CDiv; omega) | (show CPow _ _; unfold CPow; omega) | (show (_ : Int) < _; omega) | (show (_ : Int) ≤ _; omega) | decide)
local macro_rules | `(tactic| walk_at "ev") => `(tactic| first
  | exact ev_var rfl
  | exact ev_c
  | (refine' ev_I0 ?h1 ?h2; (case h1 => walk_at "ev"); (case h2 => walk_at "ev"))
  | (refine' ev_negI ?h1; (case h1 => walk_at "ev"))
  | (refine' ev_I ?h1 ?h2 ?hc; (case h1 => walk_at "ev"); (case h2 => walk_at "ev"); (case hc => walk_at "side"))
  | (refine' ev_eq ?h1 ?h2 ?hc; (case h1 => walk_at "ev"); (case h2 => walk_at "ev"); (case hc => rfl))
  | (refine' ev_ne ?h1 ?h2 ?hc; (case h1 => walk_at "ev"); (case h2 => walk_at "ev"); (case hc => rfl))
  | (refine' ev_max2 ?h1 ?h2; (case h1 => walk_at "ev"); (case h2 => walk_at "ev"))
  | (refine' ev_min2 ?h1 ?h2; (case h1 => walk_at "ev"); (case h2 => walk_at "ev"))
  | (refine' ev_chain ?h1 ?h2 ?h3; (case h1 => walk_at "ev"); (case h2 => walk_at "ev"); (case h3 => walk_at "ev"))
  | (refine' ev_isN ?h1; (case h1 => walk_at "ev"))
  | (refine' ev_notN ?h1; (case h1 => walk_at "ev"))
  | (refine' ev_isiI ?h1; (case h1 => walk_at "ev"))
  | (refine' ev_isiB ?h1; (case h1 => walk_at "ev"))
  | (refine' ev_isiBB ?h1; (case h1 => walk_at "ev"))
  | (refine' ev_andV ?h1 (fun _ => ?h2); (case h1 => walk_at "ev"); (case h2 => walk_at "ev"))
  | (refine' ev_orV ?h1 (fun _ => ?h2); (case h1 => walk_at "ev"); (case h2 => walk_at "ev"))
  | (refine' ev_notV ?h1; (case h1 => walk_at "ev"))
  | walk_at "evmore")
local macro_rules | `(tactic| walk_at "et") => `(tactic| first
  | (refine' et_test ?h1; (case h1 => walk_at "ev"))
  | (refine' et_B ?h1; (case h1 => walk_at "ev"))
  | (refine' et_not ?h1; (case h1 => walk_at "et"))
  | (refine' et_and ?h1 (fun _ => ?h2); (case h1 => walk_at "et"); (case h2 => walk_at "et"))
  | (refine' et_or ?h1 (fun _ => ?h2); (case h1 => walk_at "et"); (case h2 => walk_at "et")))
local macro_rules | `(tactic| walk_at "ea") => `(tactic| first
  | exact ea_nil
  | (refine' ea_cons ?h1 ?h2; (case h1 => walk_at "ev"); (case h2 => walk_at "ea")))
local macro_rules | `(tactic| walk_at "when") => `(tactic| (refine' q_when ?h ?h1 ?h2; (case h => walk_at "et")))
local macro_rules | `(tactic| walk_at "whenS") => `(tactic| (refine' s_when ?h ?h1 ?h2; (case h => walk_at "et")))
local macro_rules | `(tactic| walk_at "if") => `(tactic| (refine' q_if ?h ?h1 ?h2; (case h => walk_at "et")))
local macro_rules | `(tactic| walk_at "ifS") => `(tactic| (refine' s_if ?h ?h1 ?h2; (case h => walk_at "et")))
local macro_rules | `(tactic| walk_at "ret") => `(tactic| (refine' s_ret ?h ?h1; (case h => walk_at "ev")))
local macro_rules | `(tactic| walk_at "asg") => `(tactic| (refine' q_asg ?h ?h1; (case h => walk_at "ev")))
local macro_rules | `(tactic| walk_at "asgS") => `(tactic| (refine' s_asg ?h ?h1; (case h => walk_at "ev")))

/-! ### lists, existing or new -/
def EvR (te : TE) (σ : L2.St) (H : Hp) (xs : List V) : Prop := ∀ H1, Ex H H1 → ∀ Q : VK, (∀ p H2, Ex H1 H2 → H2 p = some (.lst xs) → Q (.ref p) H2) → te σ H1 Q
def EvS (K : PySem.W.Frag) (te : TE) (σ : L2.St) (H : Hp) (xs : List V) : Prop := ∀ H1, Ex H H1 → ∀ Q : VK, (∀ p H2, Ex H1 H2 → SqL K H2 p xs → Q (.ref p) H2) → te σ H1 Q
section
variable {K : PySem.W.Frag} {σ : L2.St} {H H' : Hp} {ta tb te : TE} {xs ys : List V} {a : Addr}
theorem EvL.r (h : EvL te σ H xs) : EvR te σ H xs := fun H1 e Q q => h H1 e Q fun p H2 _ e2 h2 => q p H2 e2 h2
theorem Ev.r (h : Ev te σ H (.ref a)) (hx : H a = some (.lst xs)) : EvR te σ H xs := fun H1 e Q q => h H1 e Q fun H2 e2 => q a H2 e2 (e2 _ _ (e _ _ hx))
theorem EvR.s (h : EvR te σ H xs) : EvS K te σ H xs := fun H1 e Q q => h H1 e Q fun p H2 e2 h2 => q p H2 e2 (sq_of h2)
theorem Ev.s (h : Ev te σ H (.ref a)) (hx : SqL K H a xs) : EvS K te σ H xs := fun H1 e Q q => h H1 e Q fun H2 e2 => q a H2 e2 (ex_l e2 (ex_l e hx))
theorem EvR.mono (e : Ex H H') (h : EvR te σ H xs) : EvR te σ H' xs := fun H1 a Q q => h H1 (e.trans a) Q q
theorem EvS.mono (e : Ex H H') (h : EvS K te σ H xs) : EvS K te σ H' xs := fun H1 a Q q => h H1 (e.trans a) Q q
theorem EvL.is (h : EvL te σ H xs) (e : xs = ys) : EvL te σ H ys := e ▸ h
theorem EvR.is (h : EvR te σ H xs) (e : xs = ys) : EvR te σ H ys := e ▸ h
theorem el_cat (ha : EvR ta σ H xs) (hb : EvR tb σ H ys) (hl : xs.length + ys.length ≤ 100000) : EvL (tOp rCat ta tb) σ H (xs ++ ys) := fun H1 e Q q =>
  ha H1 e _ fun p H2 e2 h2 => hb H2 (e.trans e2) _ fun r H3 e3 h3 => ⟨p, r, xs, ys, rfl, rfl, e3 _ _ h2, h3, sz_of hl, fun l hl => q l _ (fresh_back (e2.trans e3) hl) ((e2.trans e3).trans (Ex.new hl)) upd_same⟩
theorem el_rep {k : Int} (ha : EvR ta σ H xs) (hb : Ev tb σ H (.int k)) (hk : -(2 ^ 63) ≤ k ∧ k < 2 ^ 63) (hl : xs.length * k.toNat ≤ 100000) : EvL (tOp rRep ta tb) σ H (List.replicate k.toNat xs).flatten := fun H1 e Q q =>
  ha H1 e _ fun p H2 e2 h2 => hb H2 (e.trans e2) _ fun H3 e3 => ⟨p, k, xs, rfl, rfl, e3 _ _ h2, hk.1, hk.2, sz_of hl, fun l hl => q l _ (fresh_back (e2.trans e3) hl) ((e2.trans e3).trans (Ex.new hl)) upd_same⟩
theorem rep_one {x : V} (n : Nat) : (List.replicate n [x]).flatten = List.replicate n x := by
  induction n with
  | zero => rfl
  | succ n ih => rw [List.replicate_succ, List.replicate_succ, List.flatten_cons, ih]; rfl
theorem el_of {te : TE} (h : EvS K te σ H xs) : EvL (tCB (rListS K) (tCons te tNil)) σ H xs := fun H1 e Q q =>
  h H1 e _ fun p H2 e2 h2 => ⟨p, xs, rfl, .inl h2, fun l hl => q l _ (fresh_back e2 hl) (e2.trans (Ex.new hl)) upd_same⟩
theorem ev_lenS (h : EvS K te σ H xs) : Ev (tCB (rLenS K) (tCons te tNil)) σ H (.int (xs.length : Int)) := fun H1 e Q q =>
  h H1 e _ fun p H2 e2 h2 => ⟨p, xs, rfl, .inl h2, q H2 e2⟩
theorem ev_sum {ns : List Int} (h : EvS K te σ H (ns.map V.int)) : Ev (tCB (rSum K) (tCons te tNil)) σ H (.int ns.sum) := fun H1 e Q q =>
  h H1 e _ fun p H2 e2 h2 => ⟨p, ns, rfl, h2, q H2 e2⟩
theorem dp_ints {K : PySem.W.Frag} {H : Hp} : ∀ ns : List Int, DpAll K H (ns.map V.int) (ns.map PyData.int)
  | [] => .nil
  | n :: r => .cons (.int n) (dp_ints r)
theorem eqv_ints : ∀ ns ms : List Int, PyData.eqvAll (ns.map PyData.int) (ms.map PyData.int) = decide (ns = ms)
  | [], [] => by simp [PyData.eqvAll]
  | [], _ :: _ => by simp [PyData.eqvAll]
  | _ :: _, [] => by simp [PyData.eqvAll]
  | n :: r, m :: t => by
    show (PyData.eqv (.int n) (.int m) && PyData.eqvAll (r.map PyData.int) (t.map PyData.int)) = _
    rw [eqv_ints r t]
    show ((n == m) && decide (r = t)) = _
    by_cases h1 : n = m <;> by_cases h2 : r = t <;> simp [h1, h2]
theorem canLay_ints : ∀ ns : List Int, PyData.canLayAll0 (ns.map PyData.int) = true
  | [] => by simp [PyData.canLayAll0]
  | n :: r => by
    show PyData.canLayAll0 (PyData.int n :: r.map PyData.int) = true
    rw [PyData.canLayAll0, canLay_ints r]
    simp [PyData.canLay0]
theorem depth_ints : ∀ ns : List Int, PyData.depthAll (ns.map PyData.int) ≤ 1
  | [] => by simp [PyData.depthAll]
  | n :: r => by
    show PyData.depthAll (PyData.int n :: r.map PyData.int) ≤ 1
    have := depth_ints r
    simp only [PyData.depthAll, PyData.depth]
    omega
theorem shaped_ints (ns : List Int) : SeqAt.shaped (.list (ns.map PyData.int)) = true := by
  unfold SeqAt.shaped
  have h1 := canLay_ints ns
  have h2 := depth_ints ns
  have h3 : PyData.depth (.list (ns.map PyData.int)) ≤ 64 := by
    rw [PyData.depth]
    omega
  rw [decide_eq_true h3, Bool.and_true]
  simpa only [PyData.canLay0] using h1
theorem ev_eqI {ns ms : List Int} (ha : EvS K ta σ H (ns.map V.int)) (hb : EvS K tb σ H (ms.map V.int)) : Ev (tOp (rEqD K) ta tb) σ H (.bl (decide (ns = ms))) := fun H1 e Q q =>
  ha H1 e _ fun p H2 e2 h2 => hb H2 (e.trans e2) _ fun r H3 e3 h3 => ⟨.list (ns.map PyData.int), .list (ms.map PyData.int), .lst (ex_l e3 h2) (dp_ints ns), .lst h3 (dp_ints ms), shaped_ints ns, shaped_ints ms, by
    show Q (.bl (PyData.eqvAll (ns.map PyData.int) (ms.map PyData.int))) H3
    rw [eqv_ints]
    exact q H3 (e2.trans e3)⟩
theorem ev_neI {ns ms : List Int} (ha : EvS K ta σ H (ns.map V.int)) (hb : EvS K tb σ H (ms.map V.int)) : Ev (tOp (rNeD K) ta tb) σ H (.bl (!decide (ns = ms))) := fun H1 e Q q =>
  ha H1 e _ fun p H2 e2 h2 => hb H2 (e.trans e2) _ fun r H3 e3 h3 => ⟨.list (ns.map PyData.int), .list (ms.map PyData.int), .lst (ex_l e3 h2) (dp_ints ns), .lst h3 (dp_ints ms), shaped_ints ns, shaped_ints ms, by
    show Q (.bl (!PyData.eqvAll (ns.map PyData.int) (ms.map PyData.int))) H3
    rw [eqv_ints]
    exact q H3 (e2.trans e3)⟩
theorem ev_ixS {i : Nat} {n : Int} {tl ti : TE} {v : V} (h : EvS K tl σ H xs) (hi : Ev ti σ H (.int n)) (ha : atI xs n = some v) : Ev (tOp (rIxL K) tl ti) σ H v := fun H1 e Q q =>
  h H1 e _ fun p H2 e2 h2 => hi H2 (e.trans e2) _ fun H3 e3 => ⟨p, xs, n, v, rfl, rfl, ex_l e3 h2, ha, q H3 (e2.trans e3)⟩
theorem el_slS {tl th : TO} {lo hi : Option Int} (h : EvS K te σ H xs) (h1 : EvO tl σ H lo) (h2 : EvO th σ H hi) : EvL (tSl (rSlL K) te tl th) σ H (cutV xs lo hi) := fun H1 e _ q =>
  h H1 e _ fun a H2 e2 hs => h1 H2 (e.trans e2) _ fun H3 e3 => h2 H3 ((e.trans e2).trans e3) _ fun H4 e4 =>
    ⟨a, xs, rfl, ex_l (e3.trans e4) hs, fun p hp => q p _ (fresh_back ((e2.trans e3).trans e4) hp) (((e2.trans e3).trans e4).trans (Ex.new hp)) upd_same⟩
theorem ev_at {n : Int} {tl ti : TE} {v : V} (h : EvS K tl σ H xs) (hi : Ev ti σ H (.int n)) (ha : atI xs n = some v) : Ev (tOp (rIxL K) tl ti) σ H v := ev_ixS (i := 0) h hi ha
theorem cut_to (xs : List V) (i : Nat) : cutV xs none (some (i : Int)) = xs.take i := by
  unfold cutV
  rw [HT.sIx_none, HT.sIx_nat, List.drop_zero, Nat.sub_zero]
  by_cases h : i ≤ xs.length
  · rw [Nat.min_eq_left h]
  · rw [Nat.min_eq_right (by omega), List.take_of_length_le (Nat.le_refl _), List.take_of_length_le (by omega)]
theorem cut_from (xs : List V) (i : Nat) : cutV xs (some (i : Int)) none = xs.drop i := by
  unfold cutV
  rw [HT.sIx_none, HT.sIx_nat]
  by_cases h : i ≤ xs.length
  · rw [Nat.min_eq_left h, List.take_of_length_le (by rw [List.length_drop]; omega)]
  · rw [Nat.min_eq_right (by omega), List.drop_of_length_le (Nat.le_refl _), List.drop_of_length_le (show xs.length ≤ i by omega), List.take_nil]
theorem cut_mid (xs : List V) (i j : Nat) : cutV xs (some (i : Int)) (some (j : Int)) = (xs.drop i).take (j - i) := by
  unfold cutV
  rw [HT.sIx_nat, HT.sIx_nat]
  by_cases h : i ≤ xs.length
  · rw [Nat.min_eq_left h]
    by_cases h2 : j ≤ xs.length
    · rw [Nat.min_eq_left h2]
    · rw [Nat.min_eq_right (by omega), List.take_of_length_le (by rw [List.length_drop]; omega), List.take_of_length_le (by rw [List.length_drop]; omega)]
  · rw [Nat.min_eq_right (by omega : xs.length ≤ i), List.drop_of_length_le (Nat.le_refl _), List.drop_of_length_le (show xs.length ≤ i by omega)]
    simp
theorem el_to {th : TE} {ns : List Int} {i : Nat} (h : EvS K te σ H (ns.map V.int)) (h2 : Ev th σ H (.int i)) : EvL (tSl (rSlL K) te tNoPart (tPart th)) σ H ((ns.take i).map V.int) :=
  EvL.is (el_slS h eo_none (eo_some h2)) (by rw [List.map_take]; exact cut_to _ i)
theorem el_from {th : TE} {ns : List Int} {i : Nat} (h : EvS K te σ H (ns.map V.int)) (h2 : Ev th σ H (.int i)) : EvL (tSl (rSlL K) te (tPart th) tNoPart) σ H ((ns.drop i).map V.int) :=
  EvL.is (el_slS h (eo_some h2) eo_none) (by rw [List.map_drop]; exact cut_from _ i)
theorem el_mid {t1 t2 : TE} {ns : List Int} {i j : Nat} (h : EvS K te σ H (ns.map V.int)) (h1 : Ev t1 σ H (.int i)) (h2 : Ev t2 σ H (.int j)) : EvL (tSl (rSlL K) te (tPart t1) (tPart t2)) σ H (((ns.drop i).take (j - i)).map V.int) :=
  EvL.is (el_slS h (eo_some h1) (eo_some h2)) (by rw [List.map_take, List.map_drop]; exact cut_mid _ i j)
section
variable {D : Ends} {tz : TS} {sp : Sp} {dvs vs : List V} {E : XK} {tA : TA}
/-- x = f(..), whatever f promises -/
theorem q_asgC {i : Nat} (h : EvA tA σ H vs) (k : ∀ H1, Ex H H1 → sp (vs ++ dvs) H1 (fun x H2 => tz D (σ.set i (some x)) H2) E) : tSeq (tAsg (tCall sp dvs E tA) (gName i)) tz D σ H := h H (Ex.refl H) _ fun H1 e => k H1 e
theorem s_asgC {i : Nat} (h : EvA tA σ H vs) (k : ∀ H1, Ex H H1 → sp (vs ++ dvs) H1 (fun x H2 => D.nx (σ.set i (some x)) H2) E) : tAsg (tCall sp dvs E tA) (gName i) D σ H := h H (Ex.refl H) _ fun H1 e => k H1 e
theorem q_dropC (h : EvA tA σ H vs) (k : ∀ H1, Ex H H1 → sp (vs ++ dvs) H1 (fun _ H2 => tz D σ H2) E) : tSeq (tDrop (tCall sp dvs E tA)) tz D σ H := h H (Ex.refl H) _ fun H1 e => k H1 e
theorem s_retC (h : EvA tA σ H vs) (k : ∀ H1, Ex H H1 → sp (vs ++ dvs) H1 D.rt E) : tRet (tCall sp dvs E tA) D σ H := h H (Ex.refl H) _ fun H1 e => k H1 e
end
theorem gl_get {ns : List Int} {i : Nat} (h : i < ns.length) : ns[i]? = some (ns.getD i 0) := by
  rw [List.getD_eq_getElem?_getD, List.getElem?_eq_getElem h]
  rfl
theorem q_asgRaw {te : TE} {i : Nat} {D : Ends} {tz : TS} (P : V → Hp → Prop) (h : ∀ Q : VK, (∀ x H2, P x H2 → Q x H2) → te σ H Q) (k : ∀ x H2, P x H2 → tz D (σ.set i (some x)) H2) : tSeq (tAsg te (gName i)) tz D σ H := h _ k
/-- a, b = a pair -/
theorem q_asgT {te : TE} {i j : Nat} {D : Ends} {tz : TS} (P : V → V → Hp → Prop) (h : ∀ Q : VK, (∀ t x y H2, P x y H2 → SqT K H2 t [x, y] → Q (.ref t) H2) → te σ H Q) (k : ∀ x y H2, P x y H2 → tz D ((σ.set i (some x)).set j (some y)) H2) :
    tSeq (tAsg te (gTup K 2 (gCons (gName i) (gCons (gName j) gNil)))) tz D σ H := h _ fun t x y H2 hP hT => ⟨t, [x, y], rfl, hT, rfl, x, [y], rfl, y, [], rfl, rfl, k x y H2 hP⟩
/-- the law's cell -/
def cellI (ns : List Int) (k : Int) : Int := ns.getD k.toNat 0
theorem cellI_in {ns : List Int} {k : Int} (h0 : 0 ≤ k) (h : k < ns.length) : ns[k.toNat]? = some (cellI ns k) := by
  unfold cellI
  rw [List.getD_eq_getElem?_getD, List.getElem?_eq_getElem (by omega)]
  rfl
theorem cellI_out {ns : List Int} {k : Int} (h : ¬ k < ns.length) : cellI ns k = 0 := by
  unfold cellI
  rw [List.getD_eq_getElem?_getD, List.getElem?_eq_none (by omega)]
  rfl
end
theorem Ex.get {H H' : Hp} {a : Addr} {o : HO} (e : Ex H H') (h : H a = some o) : H' a = some o := e a o h
local macro_rules | `(tactic| walk_at "hp") => `(tactic| first
  | assumption
  | exact upd_same
  | (refine' Ex.get (by assumption) ?h1; (case h1 => walk_at "hp")))
local macro_rules | `(tactic| walk_at "ex") => `(tactic| first
  | assumption
  | exact Ex.refl _
  | (refine' Ex.trans ?h1 (by assumption); (case h1 => walk_at "ex")))
local macro_rules | `(tactic| walk_at "sq") => `(tactic| first
  | assumption
  | (refine' sq_of ?h1; (case h1 => walk_at "hp"))
  | (refine' ex_l (by assumption) ?h1; (case h1 => walk_at "sq")))
local macro_rules | `(tactic| walk_at "evs") => `(tactic| first
  | (refine' Ev.s ?h1 ?h2; (case h1 => exact ev_var rfl); (case h2 => walk_at "sq"))
  | (refine' EvR.s ?h1; (case h1 => walk_at "evr")))
local macro_rules | `(tactic| walk_at "evr") => `(tactic| first
  | (refine' Ev.r ?h1 ?h2; (case h1 => exact ev_var rfl); (case h2 => walk_at "hp"))
  | (refine' EvL.r ?h1; (case h1 => walk_at "el")))
local macro_rules | `(tactic| walk_at "eo") => `(tactic| first
  | exact eo_none
  | (refine' eo_some ?h1; (case h1 => walk_at "ev")))
local macro_rules | `(tactic| walk_at "el") => `(tactic| first
  | (refine' el_lst ?h1 ?h2; (case h1 => walk_at "ea"); (case h2 => exact Nat.le_of_ble_eq_true rfl))
  | (refine' el_cat ?h1 ?h2 ?h3; (case h1 => walk_at "evr"); (case h2 => walk_at "evr"); (case h3 => walk_at "len"))
  | (refine' el_rep ?h1 ?h2 ?h3 ?h4; (case h1 => walk_at "evr"); (case h2 => walk_at "ev"); (case h3 => walk_at "side2"); (case h4 => walk_at "len"))
  | (refine' el_of ?h1; (case h1 => walk_at "evs"))
  | (refine' el_to ?h1 ?h2; (case h1 => walk_at "evs"); (case h2 => walk_at "ev"))
  | (refine' el_from ?h1 ?h2; (case h1 => walk_at "evs"); (case h2 => walk_at "ev"))
  | (refine' el_mid ?h1 ?h2 ?h3; (case h1 => walk_at "evs"); (case h2 => walk_at "ev"); (case h3 => walk_at "ev"))
  | (refine' el_slS ?h1 ?h2 ?h3; (case h1 => walk_at "evs"); (case h2 => walk_at "eo"); (case h3 => walk_at "eo"))
  | walk_at "elmore")
local macro_rules | `(tactic| walk_at "evmore") => `(tactic| first
  | (refine' ev_lenS ?h1; (case h1 => walk_at "evs"))
  | (refine' ev_sum ?h1; (case h1 => walk_at "evs"))
  | (refine' ev_eqI ?h1 ?h2; (case h1 => walk_at "evs"); (case h2 => walk_at "evs"))
  | (refine' ev_neI ?h1 ?h2; (case h1 => walk_at "evs"); (case h2 => walk_at "evs"))
  | (refine' ev_at ?h1 ?h2 ?h3; (case h1 => walk_at "evs"); (case h2 => walk_at "ev"); (case h3 => walk_at "at"))
  | (refine' ev_isiL ?h1 ?h2; (case h1 => walk_at "ev"); (case h2 => walk_at "hp"))
  | walk_at "evown")
local macro_rules | `(tactic| walk_at "at") => `(tactic| first
  | exact at_of rfl (at_int (by assumption))
  | exact at_of rfl (by assumption))
local macro_rules | `(tactic| walk_at "asgL") => `(tactic| (refine' q_asgL ?h ?h1; (case h => walk_at "el")))
local macro_rules | `(tactic| walk_at "retL") => `(tactic| (refine' s_retL ?h ?h1; (case h => walk_at "el")))

/-- a walk's reading said in other words -/
theorem PI.k {X : Cx} {tg e : Expr} {wi wi' : TI} (h : PI X tg e wi) (q : wi = wi') : PI X tg e wi' := q ▸ h
/-! ### comprehensions whose items are said in a list -/
theorem et_yes {σ : L2.St} {H : Hp} : EvT tYes σ H true := fun H1 _ _ q => q H1 (Ex.refl H1)
section
variable {K : PySem.W.Frag} {σ : L2.St} {H : Hp} {t1 t2 te : TE} {xs ys zs : List V} {vs : List Nat}
theorem take_snoc {zs : List V} {i : Nat} {z : V} (h : zs[i]? = some z) : zs.take (i + 1) = zs.take i ++ [z] := by
  rw [List.take_add_one, h]
  rfl
theorem el_lcZ {j1 j2 : Nat} (zs : List V) (h1 : EvS K t1 σ H xs) (h2 : EvS K t2 σ H ys) (hz : zs.length = min xs.length ys.length) (hb : zs.length ≤ 50000)
    (hw : ∀ x y, wipe (((wipe σ vs).set j1 (some x)).set j2 (some y)) vs = wipe σ vs)
    (he : ∀ (i : Nat) (x y : V) H1, Ex H H1 → xs[i]? = some x → ys[i]? = some y → ∃ z, zs[i]? = some z ∧ Ev te (((wipe σ vs).set j1 (some x)).set j2 (some y)) H1 z) :
    EvL (tLc (iZip K (tCons t1 (tCons t2 tNil))) (gTup K 2 (gCons (gName j1) (gCons (gName j2) gNil))) tYes te vs) σ H zs := fun H0 e Q q =>
  h1 H0 e _ fun p H1 e1 hp => h2 H1 (e.trans e1) _ fun r H2 e2 hr => ⟨p, r, xs, ys, rfl, ex_l e2 hp, hr, fun D hD =>
    ⟨fun i m H' => m = zs.length - i ∧ i ≤ zs.length ∧ Ex H2 H' ∧ H' D = some (.lst (zs.take i)), ⟨zs.length, rfl, Nat.zero_le _, Ex.new hD, upd_same⟩, by
      rintro i m H' ⟨rfl, hi, ex, hd⟩
      have qx : SqL K H' p xs := ex_l (e2.trans ex) hp
      have qy : SqL K H' r ys := ex_l ex hr
      by_cases hlt : i < zs.length
      · have hx : xs[i]? = some xs[i] := List.getElem?_eq_getElem (by omega)
        have hy : ys[i]? = some ys[i] := List.getElem?_eq_getElem (by omega)
        refine .inr ⟨⟨xs, ys, _, _, qx, qy, hx, hy⟩, fun H3 => i + 1 ≤ zs.length ∧ Ex H2 H3 ∧ H3 D = some (.lst (zs.take (i + 1))), fun H3 h3 => ⟨zs.length - (i + 1), by omega, rfl, h3⟩, fun v H3 hv => ?_⟩
        obtain ⟨T, x, y, rfl, hT, rfl, f1, f2⟩ := hv
        have ex3 : Ex H' (upd H' T (.tup [x, y])) := Ex.new hT
        obtain ⟨z, hz1, hz2⟩ := he i x y (upd H' T (.tup [x, y])) ((((e.trans e1).trans e2).trans ex).trans ex3) (f1 _ qx) (f2 _ qy)
        refine ⟨T, [x, y], rfl, st_of upd_same, rfl, x, [y], rfl, y, [], rfl, rfl, hw x y, ?_⟩
        refine hz2 _ (Ex.refl _) _ fun H4 e4 => ⟨zs.take i, e4 _ _ (ex3 _ _ hd), sz_lt (by rw [List.length_take]; omega), hlt, ?_, ?_⟩
        · exact Ex.mut ((ex.trans ex3).trans e4) hD
        · rw [upd_same, take_snoc hz1]
      · have ei : i = zs.length := by omega
        refine .inl ⟨⟨xs, ys, qx, qy, by omega⟩, ?_⟩
        rw [ei, List.take_length] at hd
        exact q D H' (fresh_back (e1.trans e2) hD) ((e1.trans e2).trans ex) hd⟩⟩
/-- over a list, each item kept -/
theorem el_lcS {j : Nat} (zs : List V) (h1 : EvS K t1 σ H xs) (hz : zs.length = xs.length) (hb : zs.length ≤ 50000) (hw : ∀ x, wipe ((wipe σ vs).set j (some x)) vs = wipe σ vs)
    (he : ∀ (i : Nat) (x : V) H1, Ex H H1 → xs[i]? = some x → ∃ z, zs[i]? = some z ∧ Ev te ((wipe σ vs).set j (some x)) H1 z) :
    EvL (tLc (iList K t1) (gName j) tYes te vs) σ H zs := fun H0 e Q q =>
  h1 H0 e _ fun p H1 e1 hp => ⟨p, rfl, ⟨xs, hp⟩, fun D hD => lc_list (xs := xs) (fun i H' => Ex H1 H' ∧ H' D = some (.lst (zs.take i))) ⟨Ex.new hD, upd_same⟩ (fun i H' _ h => ex_l h.1 hp)
    (fun i x H' hi h => ⟨hw x, by
      obtain ⟨z, hz1, hz2⟩ := he i x H' ((e.trans e1).trans h.1) hi
      have hl : i < xs.length := (List.getElem?_eq_some_iff.mp hi).1
      refine hz2 H' (Ex.refl _) _ fun H4 e4 => ⟨zs.take i, e4 _ _ h.2, sz_lt (by rw [List.length_take]; omega), Ex.mut (h.1.trans e4) hD, ?_⟩
      rw [upd_same, take_snoc hz1]⟩)
    (fun H' h => q D H' (fresh_back e1 hD) (e1.trans h.1) (by rw [h.2, ← hz, List.take_length]))⟩
/-- over range(n) -/
theorem el_lcR {ta : TA} {n : Int} {j : Nat} (zs : List V) (h1 : EvA ta σ H [.int n]) (hn : -100000 ≤ n) (hz : zs.length = n.toNat) (hb : zs.length ≤ 50000) (hw : ∀ x, wipe ((wipe σ vs).set j (some x)) vs = wipe σ vs)
    (he : ∀ (i : Nat) H1, Ex H H1 → i < zs.length → ∃ z, zs[i]? = some z ∧ Ev te ((wipe σ vs).set j (some (.int (i : Int)))) H1 z) :
    EvL (tLc (iRng1 ta) (gName j) tYes te vs) σ H zs := fun H0 e Q q =>
  h1 H0 e _ fun H1 e1 => ⟨n, rfl, by omega, by omega, fun D hD => lc_range (lo := 0) (n := n.toNat) (fun i H' => Ex H1 H' ∧ H' D = some (.lst (zs.take i))) ⟨Ex.new hD, upd_same⟩
    (fun i H' hi h => by
      have e0 : (0 : Int) + (i : Int) = (i : Int) := Int.zero_add _
      rw [e0]
      obtain ⟨z, hz1, hz2⟩ := he i H' ((e.trans e1).trans h.1) (by omega)
      refine ⟨hw _, hz2 H' (Ex.refl _) _ fun H4 e4 => ⟨zs.take i, e4 _ _ h.2, sz_lt (by rw [List.length_take]; omega), Ex.mut (h.1.trans e4) hD, ?_⟩⟩
      rw [upd_same, take_snoc hz1])
    (fun H' h => q D H' (fresh_back e1 hD) (e1.trans h.1) (by rw [h.2, show n.toNat = zs.length by omega, List.take_length]))⟩
/-- y = [.. for x in f(..)], whatever f promises -/
theorem s_asgLC {sp : Sp} {dvs args : List V} {E : XK} {ta : TA} {g : TG} {tt : TT} {D : Ends} {i : Nat} (h : EvA ta σ H args) (k : ∀ H1, Ex H H1 → sp (args ++ dvs) H1 (fun x H2 => tAsg (tLc (iList K (tC x)) g tt te vs) (gName i) D σ H2) E) :
    tAsg (tLc (iList K (tCall sp dvs E ta)) g tt te vs) (gName i) D σ H := h H (Ex.refl H) _ fun H1 e => k H1 e
theorem q_asgLC {sp : Sp} {dvs args : List V} {E : XK} {ta : TA} {g : TG} {tt : TT} {D : Ends} {i : Nat} {tz : TS} (h : EvA ta σ H args) (k : ∀ H1, Ex H H1 → sp (args ++ dvs) H1 (fun x H2 => tSeq (tAsg (tLc (iList K (tC x)) g tt te vs) (gName i)) tz D σ H2) E) :
    tSeq (tAsg (tLc (iList K (tCall sp dvs E ta)) g tt te vs) (gName i)) tz D σ H := h H (Ex.refl H) _ fun H1 e => k H1 e
theorem s_retLC {sp : Sp} {dvs args : List V} {E : XK} {ta : TA} {g : TG} {tt : TT} {D : Ends} (h : EvA ta σ H args) (k : ∀ H1, Ex H H1 → sp (args ++ dvs) H1 (fun x H2 => tRet (tLc (iList K (tC x)) g tt te vs) D σ H2) E) :
    tRet (tLc (iList K (tCall sp dvs E ta)) g tt te vs) D σ H := h H (Ex.refl H) _ fun H1 e => k H1 e
end

/-! ### data at any depth -/
mutual
theorem dp_ex {K : PySem.W.Frag} {H H' : Hp} (e : Ex H H') : ∀ (d : PyData) (v : V), Dp K H v d → Dp K H' v d
  | .none, _, h => by cases h; exact .non
  | .bool b, _, h => by cases h; exact .bl b
  | .int i, _, h => by cases h; exact .int i
  | .str x, _, h => by cases h; exact .str x
  | .list ds, _, h => by cases h with | lst hs ha => exact .lst (ex_l e hs) (dpa_ex e ds _ ha)
  | .tuple ds, _, h => by cases h with | tup hs ha => exact .tup (ex_t e hs) (dpa_ex e ds _ ha)
  | .dict _, _, h => by cases h
theorem dpa_ex {K : PySem.W.Frag} {H H' : Hp} (e : Ex H H') : ∀ (ds : List PyData) (vs : List V), DpAll K H vs ds → DpAll K H' vs ds
  | [], _, h => by cases h; exact .nil
  | d :: ds, _, h => by cases h with | cons h1 h2 => exact .cons (dp_ex e d _ h1) (dpa_ex e ds _ h2)
end
def EvD (K : PySem.W.Frag) (te : TE) (σ : L2.St) (H : Hp) (d : PyData) : Prop := ∀ H1, Ex H H1 → ∀ Q : VK, (∀ v H2, Ex H1 H2 → Dp K H2 v d → Q v H2) → te σ H1 Q
section
variable {K : PySem.W.Frag} {σ : L2.St} {H : Hp} {te ta tb t1 t2 t3 : TE} {d d1 d2 d3 : PyData} {v : V}
theorem EvD.of (h : Ev te σ H v) (hd : Dp K H v d) : EvD K te σ H d := fun H1 e Q q => h H1 e _ fun H2 e2 => q v H2 e2 (dp_ex (e.trans e2) d v hd)
theorem EvS.toD {ns : List Int} (h : EvS K te σ H (ns.map V.int)) : EvD K te σ H (.list (ns.map .int)) := fun H1 e Q q => h H1 e _ fun p H2 e2 hp => q (.ref p) H2 e2 (.lst hp (dp_ints ns))
theorem ed_tup2 (h1 : EvD K t1 σ H d1) (h2 : EvD K t2 σ H d2) : EvD K (tTup (tCons t1 (tCons t2 tNil))) σ H (.tuple [d1, d2]) := fun H1 e Q q => h1 H1 e _ fun v H2 e2 hv => h2 H2 (e.trans e2) _ fun u H3 e3 hu =>
  ⟨sz_of (show 2 ≤ 100000 by decide), fun p hp => q (.ref p) _ ((e2.trans e3).trans (Ex.new hp)) (.tup (st_of upd_same) (.cons (dp_ex (e3.trans (Ex.new hp)) _ _ hv) (.cons (dp_ex (Ex.new hp) _ _ hu) .nil)))⟩
theorem ev_eqDD (h1 : EvD K ta σ H d) (h2 : EvD K tb σ H d) (hs : SeqAt.shaped d = true) : Ev (tOp (rEqD K) ta tb) σ H (.bl true) := fun H1 e Q q => h1 H1 e _ fun v H2 e2 hv => h2 H2 (e.trans e2) _ fun u H3 e3 hu =>
  ⟨d, d, dp_ex e3 d v hv, hu, hs, hs, by rw [SeqAt.eqv_refl d (SeqAt.canLay_of_shaped hs)]; exact q H3 (e2.trans e3)⟩
theorem ev_neDD (h1 : EvD K ta σ H d) (h2 : EvD K tb σ H d) (hs : SeqAt.shaped d = true) : Ev (tOp (rNeD K) ta tb) σ H (.bl false) := fun H1 e Q q => h1 H1 e _ fun v H2 e2 hv => h2 H2 (e.trans e2) _ fun u H3 e3 hu =>
  ⟨d, d, dp_ex e3 d v hv, hu, hs, hs, by rw [SeqAt.eqv_refl d (SeqAt.canLay_of_shaped hs)]; exact q H3 (e2.trans e3)⟩
end
theorem shaped_pair (ns ms : List Int) : SeqAt.shaped (.tuple [.list (ns.map .int), .list (ms.map .int)]) = true := by
  unfold SeqAt.shaped
  have h1 := canLay_ints ns
  have h2 := depth_ints ns
  have h3 := canLay_ints ms
  have h4 := depth_ints ms
  rw [Bool.and_eq_true, decide_eq_true_iff]
  refine ⟨by simp only [PyData.canLay0, PyData.canLayAll0, h1, h3, Bool.and_self], ?_⟩
  simp only [PyData.depth, PyData.depthAll]
  omega

/-! ### calls with keywords, defaults -/
theorem kwAllN {K : PySem.W.Frag} {D : Addr} : ∀ p ∈ ([] : List (Str × V)), ∃ u, PySem.W.nsIn K D p.1 = some (some u) ∧ RelV p.2 u := fun p hp => by cases hp
theorem kwAllC {K : PySem.W.Frag} {D : Addr} {q : Str × V} {l : List (Str × V)} (h : ∃ u, PySem.W.nsIn K D q.1 = some (some u) ∧ RelV q.2 u) (hl : ∀ p ∈ l, ∃ u, PySem.W.nsIn K D p.1 = some (some u) ∧ RelV p.2 u) : ∀ p ∈ q :: l, ∃ u, PySem.W.nsIn K D p.1 = some (some u) ∧ RelV p.2 u := fun p hp => by
  rcases List.mem_cons.mp hp with rfl | hp
  · exact h
  · exact hl p hp
theorem kwAll1 {K : PySem.W.Frag} {D : Addr} {q : Str × V} (h : ∃ u, PySem.W.nsIn K D q.1 = some (some u) ∧ RelV q.2 u) : ∀ p ∈ [q], ∃ u, PySem.W.nsIn K D p.1 = some (some u) ∧ RelV p.2 u := fun p hp => by
  rcases List.mem_cons.mp hp with rfl | hp
  · exact h
  · cases hp
section
variable {K : PySem.W.Frag} {x qual : Str} {params : Arguments} {body : List Stmt} {scope : Scope} {dvs : List V} {kws : List (Str × V)} {f : Addr} {fd : FuncData} {ps : List Str}
/-- f(a, .., k = v, ..), nothing left to a default, no defaults of place -/
theorem fund_kb0 {g : List Value → List Value → List Value} {gV : List V → List V → List V} (F : FunD K x qual params body scope [] kws f fd) (n : Nat) (ks : List Str)
    (hrel : ∀ {vs : List V} {us : List Value} {zs : List V} {ws : List Value}, Vals vs us → Vals zs ws → Vals (gV vs zs) (g us ws))
    (h : ∀ (kV doc pm : Value) (an : Option Addr) (cdv ct : Value) (us ws : List Value), us.length = n → ws.length = ks.length → bindArgs (PySem.W.fnOf x qual params body scope .none kV doc pm an cdv ct) ⟨us, ks.zip ws⟩ = pure (ps.zip (g us ws))) :
    KBn K fd ps n ks g gV := by
  obtain ⟨oc, od, dV, kV, doc, pm, an, cdv, ct, osl, rfl, lk, hcd, hD, hK⟩ := F.ex
  rcases hD with ⟨_, rfl⟩ | ⟨e, _⟩
  · exact ⟨fun s us ws X l1 l2 => .of_eq (h kV doc pm an cdv ct us ws l1 l2), hrel⟩
  · exact absurd rfl e
/-- the same of a def with defaults of place -/
theorem fund_kb1 {g : List Value → List Value → List Value} {gV : List V → List V → List V} (F : FunD K x qual params body scope dvs kws f fd) (hd : dvs ≠ []) (n : Nat) (ks : List Str)
    (hrel : ∀ {vs : List V} {us : List Value} {zs : List V} {ws : List Value}, Vals vs us → Vals zs ws → Vals (gV vs zs) (g us ws))
    (h : ∀ (T : Addr) (kV doc pm : Value) (an : Option Addr) (cdv ct : Value) (us its ws : List Value), us.length = n → its.length = dvs.length → ws.length = ks.length →
      ∃ k, bindArgs (PySem.W.fnOf x qual params body scope (.ref T) kV doc pm an cdv ct) ⟨us, ks.zip ws⟩ = seqItems? (.ref T) >>= k ∧ k (some its.toArray) = pure (ps.zip (g us ws))) :
    KBn K fd ps n ks g gV := by
  obtain ⟨oc, od, dV, kV, doc, pm, an, cdv, ct, osl, rfl, lk, hcd, hD, hK⟩ := F.ex
  rcases hD with ⟨e, _⟩ | ⟨_, T, o, its, m, rfl, lT, oT, rT⟩
  · exact absurd e hd
  · refine ⟨fun s us ws X l1 l2 => ?_, hrel⟩
    obtain ⟨k, e1, e2⟩ := h T kV doc pm an cdv ct us its ws l1 rT.length.symm l2
    refine BindsTo.of_looks fun M => ?_
    rw [e1]
    exact looks_items X lT oT (.of_pure e2)
end

/-! ### x == y by x's own method -/
def rEqO (C : Addr) (sp : Sp) (E : XK) (K : PySem.W.Frag) : R2 := fun x y H Q => ∃ (a dx : Addr) (fs : List (Str × V)) (t : Value), x = .ref a ∧ H a = some (.ins C dx fs) ∧ TyX K H y t ∧ PySem.W.notFirst K C t = true ∧ sp [.ref a, y] H (fun v H' => (∃ b, v = .bl b) ∧ Q v H') E
structure TyC (K : PySem.W.Frag) (C : Addr) : Prop where
  ha : PySem.W.findIn K (.ref C) "__class__" = some (some (.builtin "object.__class__"))
  hn : PySem.W.specialIn K (.builtin "object.__class__") "__get__" = some (some (.builtin "getset_descriptor.__get__"))
  ht : PySem.W.takesIn K (.builtin "object.__class__") = some true
  hm : PySem.W.mroIn K C (.type "object") = some true
theorem TyC.ins {K : PySem.W.Frag} {C : Addr} (t : TyC K C) (c : Cls K C) {H : Hp} {a dx : Addr} {fs : List (Str × V)} (h : H a = some (.ins C dx fs)) : ∀ H1, Ex H H1 → TyX K H1 (.ref a) (.ref C) := fun H1 e => .base (.ins (e _ _ h) c t.ha t.hn t.ht t.hm)
/-- isinstance(x, C), C an own class -/
theorem ev_isiO {K : PySem.W.Frag} {σ : L2.St} {H : Hp} {ta : TE} {x : V} {t : Value} {C : Addr} {b : Bool} (ha : Ev ta σ H x) (ht : ∀ H1, Ex H H1 → TyX K H1 x t) (hk : PySem.W.kitOne K t (.ref C) = some b) : Ev (tCB (rIsi K) (tCons ta (tCons (tC (.ref C)) tNil))) σ H (.bl b) :=
  ev_cb (ea_cons ha (ea_cons ev_c ea_nil)) fun H1 e Q q => ⟨x, .ref C, t, _, b, rfl, .own C, ht H1 e, hk, q H1 (Ex.refl H1)⟩
theorem ev_eqO {K : PySem.W.Frag} {σ : L2.St} {H : Hp} {ta tb : TE} {C a dx : Addr} {fs : List (Str × V)} {y : V} {t : Value} {sp : Sp} {E : XK} {b : Bool} (ha : Ev ta σ H (.ref a)) (hx : H a = some (.ins C dx fs)) (hb : Ev tb σ H y) (ht : ∀ H1, Ex H H1 → TyX K H1 y t) (hn : PySem.W.notFirst K C t = true) (hs : SpV sp [.ref a, y] H (.bl b)) : Ev (tOp (rEqO C sp E K) ta tb) σ H (.bl b) := fun H1 e Q q =>
  ha H1 e _ fun H2 e2 => hb H2 (e.trans e2) _ fun H3 e3 => ⟨a, dx, fs, t, rfl, ((e.trans e2).trans e3) _ _ hx, ht H3 ((e.trans e2).trans e3), hn, hs H3 ((e.trans e2).trans e3) _ (fun H4 e4 => ⟨⟨b, rfl⟩, q H4 ((e2.trans e3).trans e4)⟩) E⟩
theorem op_eqO {X : Cx} {CX : CXT} {C f : Addr} {fd : FuncData} {ps : List Str} {sp : Sp} {E : XK} {n : Nat} (F : FnOk X.prog X.w X.K X.mg X.base CX n f fd ps sp) (hs : PySem.W.findIn X.K (.ref C) "__eq__" = some (some (.ref f))) (hf : PySem.W.isFn X.K (.ref f) = true)
    (hb : Binds X.K fd ps []) (hx : Passes CX X E) (hr : Room n X.A) : OpR X (compareOp .Eq) (rEqO C sp E X.K) := by
  intro pins s σ H x y v u Q I rx ry hq
  obtain ⟨a, dx, fs, t, rfl, ha, ty, hn, hsp⟩ := hq
  cases rx
  obtain ⟨mA, J, _⟩ := ins_get I.hok ha
  obtain ⟨od, J, _⟩ := J.look
  obtain ⟨Pt, Z, hP, _⟩ := kit_of I ry ty
  obtain ⟨m, hF⟩ := I.fr
  show wpAny (model X.prog X.w) X.A (richCompare .Eq (.ref a) u) (EP X pins σ Q) X.xe s
  refine PySem.W.cmp_K (op := .Eq) (tb := t) hr.units0 hF I.ok.mod.kin J (Z.ty _ _ I.kIn hP) hn hs hf ?_
  have hl := F.len _ _ _ _ hsp
  have r2 : Vals [V.ref a, y] [Value.ref a, u] := .cons rfl (.cons ry .nil)
  refine wpAny_call (codeAny_mono (F.run X.A X.stack s H ⟨[.ref a, u], []⟩ [.ref a, u] [.ref a, y] _ E hr I.env0 (by
    have := hb s [.ref a, u] I.kIn (by simpa using hl)
    simpa using this) r2 hsp) fun r s' hq => ?_)
  cases r with
  | error e => exact hx pins σ H s e s' I hq
  | ok fl =>
    cases fl with
    | ret w =>
      obtain ⟨z, H', I', rz, ⟨b, ez⟩, q⟩ := I.after hq
      subst ez
      cases rz
      exact ⟨.bl b, H', I', rfl, q⟩
    | next => exact False.elim hq
    | brk => exact False.elim hq
    | cont => exact False.elim hq
theorem kit_cls' {K : PySem.W.Frag} {C : Addr} {t : Value} (hd : PySem.W.hasDictIn K C = true) (ht : PySem.W.typeIn K (.ref C) = some (.type "type")) (hs : PySem.W.subIn K t (.ref C) = some false) (hn : (t == Value.ref C) = false) : PySem.W.kitOne K t (.ref C) = some false ∧ PySem.W.notFirst K C t = true := by
  obtain ⟨cd, hc, _⟩ := PySem.W.any_some hd
  refine ⟨?_, ?_⟩
  · unfold PySem.W.kitOne PySem.W.kitCls
    rw [hn, if_neg (by decide)]
    show (if ((PySem.W.clsIn K C).isSome && PySem.W.typeIn K (.ref C) == some (.type "type")) = true then PySem.W.subIn K t (.ref C) else none) = _
    rw [hc, ht, if_pos (by simp), hs]
  · unfold PySem.W.notFirst
    rw [hs, hn]
    simp
theorem kit_ty {K : PySem.W.Frag} {C : Addr} {T : String} (hd : PySem.W.hasDictIn K C = true) (ht : PySem.W.typeIn K (.ref C) = some (.type "type")) (hs : PySem.W.subIn K (.type T) (.ref C) = some false) : PySem.W.kitOne K (.type T) (.ref C) = some false ∧ PySem.W.notFirst K C (.type T) = true := kit_cls' hd ht hs rfl
theorem kit_self {K : PySem.W.Frag} {C : Addr} : PySem.W.kitOne K (.ref C) (.ref C) = some true ∧ PySem.W.notFirst K C (.ref C) = true := by
  refine ⟨?_, ?_⟩
  · unfold PySem.W.kitOne
    rw [if_pos (by simp)]
  · unfold PySem.W.notFirst
    simp
theorem kit_ref {K : PySem.W.Frag} {C D : Addr} (hd : PySem.W.hasDictIn K C = true) (ht : PySem.W.typeIn K (.ref C) = some (.type "type")) (hz : PySem.W.subIn K (.ref C) (.ref C) = some true) (hs : PySem.W.subIn K (.ref D) (.ref C) = some false) : PySem.W.kitOne K (.ref D) (.ref C) = some false ∧ PySem.W.notFirst K C (.ref D) = true :=
  kit_cls' hd ht hs (by
    cases h : (Value.ref D == Value.ref C) with
    | false => rfl
    | true =>
      have e := eq_of_beq h
      injection e with e
      subst e
      rw [hz] at hs
      cases hs)

/-- what the top has left -/
structure TX (K : PySem.W.Frag) (mg : Str → Option Value) where
  a_MonochordError_init : Addr
  d_MonochordError_init : FuncData
  F_MonochordError_init : Fun K "__init__" "MonochordError.__init__" s_MonochordError_init a_MonochordError_init d_MonochordError_init
  b_MonochordError_init : Binds K d_MonochordError_init ["self", "place"] []
  a_BitWriter_init : Addr
  d_BitWriter_init : FuncData
  F_BitWriter_init : Fun K "__init__" "BitWriter.__init__" s_BitWriter_init a_BitWriter_init d_BitWriter_init
  b_BitWriter_init : Binds K d_BitWriter_init ["self"] []
  a_BitWriter_write : Addr
  d_BitWriter_write : FuncData
  F_BitWriter_write : Fun K "write" "BitWriter.write" s_BitWriter_write a_BitWriter_write d_BitWriter_write
  b_BitWriter_write : Binds K d_BitWriter_write ["self", "width", "value"] []
  a_BitWriter_append_bytes : Addr
  d_BitWriter_append_bytes : FuncData
  F_BitWriter_append_bytes : Fun K "append_bytes" "BitWriter.append_bytes" s_BitWriter_append_bytes a_BitWriter_append_bytes d_BitWriter_append_bytes
  b_BitWriter_append_bytes : Binds K d_BitWriter_append_bytes ["self", "data"] []
  a_BitWriter_byte_list : Addr
  d_BitWriter_byte_list : FuncData
  F_BitWriter_byte_list : Fun K "byte_list" "BitWriter.byte_list" s_BitWriter_byte_list a_BitWriter_byte_list d_BitWriter_byte_list
  b_BitWriter_byte_list : Binds K d_BitWriter_byte_list ["self"] []
  a_BitReader_init : Addr
  d_BitReader_init : FuncData
  F_BitReader_init : FunD K "__init__" "BitReader.__init__" (defArgs s_BitReader_init) (defBody s_BitReader_init) (defScope s_BitReader_init) [V.int 0] [] a_BitReader_init d_BitReader_init
  e2_BitReader_init : List Value
  v2_BitReader_init : Vals [V.int 0] e2_BitReader_init
  b2_BitReader_init : Binds K d_BitReader_init ["self", "data", "at"] e2_BitReader_init
  a_BitReader_read : Addr
  d_BitReader_read : FuncData
  F_BitReader_read : Fun K "read" "BitReader.read" s_BitReader_read a_BitReader_read d_BitReader_read
  b_BitReader_read : Binds K d_BitReader_read ["self", "width"] []
  a_BitReader_read_bytes : Addr
  d_BitReader_read_bytes : FuncData
  F_BitReader_read_bytes : Fun K "read_bytes" "BitReader.read_bytes" s_BitReader_read_bytes a_BitReader_read_bytes d_BitReader_read_bytes
  b_BitReader_read_bytes : Binds K d_BitReader_read_bytes ["self", "count"] []
  a_BitReader_byte_place : Addr
  d_BitReader_byte_place : FuncData
  F_BitReader_byte_place : Fun K "byte_place" "BitReader.byte_place" s_BitReader_byte_place a_BitReader_byte_place d_BitReader_byte_place
  b_BitReader_byte_place : Binds K d_BitReader_byte_place ["self"] []
  a_BitReader_aligned : Addr
  d_BitReader_aligned : FuncData
  F_BitReader_aligned : Fun K "aligned" "BitReader.aligned" s_BitReader_aligned a_BitReader_aligned d_BitReader_aligned
  b_BitReader_aligned : Binds K d_BitReader_aligned ["self"] []
  a_StreamInfo_init : Addr
  d_StreamInfo_init : FuncData
  F_StreamInfo_init : Fun K "__init__" "StreamInfo.__init__" s_StreamInfo_init a_StreamInfo_init d_StreamInfo_init
  b_StreamInfo_init : Binds K d_StreamInfo_init ["self", "least_block", "greatest_block", "least_frame", "greatest_frame", "rate", "channel_count", "depth", "length", "digest"] []
  a_StreamInfo_fields : Addr
  d_StreamInfo_fields : FuncData
  F_StreamInfo_fields : Fun K "fields" "StreamInfo.fields" s_StreamInfo_fields a_StreamInfo_fields d_StreamInfo_fields
  b_StreamInfo_fields : Binds K d_StreamInfo_fields ["self"] []
  a_StreamInfo_fixed_size : Addr
  d_StreamInfo_fixed_size : FuncData
  F_StreamInfo_fixed_size : Fun K "fixed_size" "StreamInfo.fixed_size" s_StreamInfo_fixed_size a_StreamInfo_fixed_size d_StreamInfo_fixed_size
  b_StreamInfo_fixed_size : Binds K d_StreamInfo_fixed_size ["self"] []
  a_StreamInfo_eq : Addr
  d_StreamInfo_eq : FuncData
  F_StreamInfo_eq : Fun K "__eq__" "StreamInfo.__eq__" s_StreamInfo_eq a_StreamInfo_eq d_StreamInfo_eq
  b_StreamInfo_eq : Binds K d_StreamInfo_eq ["self", "other"] []
  a_read_streaminfo : Addr
  d_read_streaminfo : FuncData
  F_read_streaminfo : Fun K "read_streaminfo" "read_streaminfo" s_read_streaminfo a_read_streaminfo d_read_streaminfo
  b_read_streaminfo : Binds K d_read_streaminfo ["data", "start", "stop"] []
  g_read_streaminfo : mg "read_streaminfo" = some (.ref a_read_streaminfo)
  a_write_streaminfo : Addr
  d_write_streaminfo : FuncData
  F_write_streaminfo : Fun K "write_streaminfo" "write_streaminfo" s_write_streaminfo a_write_streaminfo d_write_streaminfo
  b_write_streaminfo : Binds K d_write_streaminfo ["info"] []
  g_write_streaminfo : mg "write_streaminfo" = some (.ref a_write_streaminfo)
  a_check_blocks : Addr
  d_check_blocks : FuncData
  F_check_blocks : Fun K "_check_blocks" "_check_blocks" s_check_blocks a_check_blocks d_check_blocks
  b_check_blocks : Binds K d_check_blocks ["least_block", "greatest_block", "start"] []
  g_check_blocks : mg "_check_blocks" = some (.ref a_check_blocks)
  a_law_is_integer : Addr
  d_law_is_integer : FuncData
  F_law_is_integer : Fun K "_law_is_integer" "_law_is_integer" s_law_is_integer a_law_is_integer d_law_is_integer
  b_law_is_integer : Binds K d_law_is_integer ["actual"] []
  g_law_is_integer : mg "_law_is_integer" = some (.ref a_law_is_integer)
  a_law_refill : Addr
  d_law_refill : FuncData
  F_law_refill : Fun K "_law_refill" "_law_refill" s_law_refill a_law_refill d_law_refill
  b_law_refill : Binds K d_law_refill ["script", "k"] []
  g_law_refill : mg "_law_refill" = some (.ref a_law_refill)
  a_law_draw : Addr
  d_law_draw : FuncData
  F_law_draw : Fun K "_law_draw" "_law_draw" s_law_draw a_law_draw d_law_draw
  b_law_draw : Binds K d_law_draw ["state", "script", "size"] []
  g_law_draw : mg "_law_draw" = some (.ref a_law_draw)
  a_law_wide : Addr
  d_law_wide : FuncData
  F_law_wide : Fun K "_law_wide" "_law_wide" s_law_wide a_law_wide d_law_wide
  b_law_wide : Binds K d_law_wide ["state", "script", "size"] []
  g_law_wide : mg "_law_wide" = some (.ref a_law_wide)
  a_law_junk : Addr
  d_law_junk : FuncData
  F_law_junk : Fun K "_law_junk" "_law_junk" s_law_junk a_law_junk d_law_junk
  b_law_junk : Binds K d_law_junk ["state", "script", "count"] []
  g_law_junk : mg "_law_junk" = some (.ref a_law_junk)
  a_law_is_bytes : Addr
  d_law_is_bytes : FuncData
  F_law_is_bytes : Fun K "_law_is_bytes" "_law_is_bytes" s_law_is_bytes a_law_is_bytes d_law_is_bytes
  b_law_is_bytes : Binds K d_law_is_bytes ["actual"] []
  g_law_is_bytes : mg "_law_is_bytes" = some (.ref a_law_is_bytes)
  a_law_number_bytes : Addr
  d_law_number_bytes : FuncData
  F_law_number_bytes : Fun K "_law_number_bytes" "_law_number_bytes" s_law_number_bytes a_law_number_bytes d_law_number_bytes
  b_law_number_bytes : Binds K d_law_number_bytes ["number", "count"] []
  g_law_number_bytes : mg "_law_number_bytes" = some (.ref a_law_number_bytes)
  a_law_fields : Addr
  d_law_fields : FuncData
  F_law_fields : Fun K "_law_fields" "_law_fields" s_law_fields a_law_fields d_law_fields
  b_law_fields : Binds K d_law_fields ["state", "script"] []
  g_law_fields : mg "_law_fields" = some (.ref a_law_fields)
  a_law_body : Addr
  d_law_body : FuncData
  F_law_body : Fun K "_law_body" "_law_body" s_law_body a_law_body d_law_body
  b_law_body : Binds K d_law_body ["row"] []
  g_law_body : mg "_law_body" = some (.ref a_law_body)
  a_law_made : Addr
  d_law_made : FuncData
  F_law_made : Fun K "_law_made" "_law_made" s_law_made a_law_made d_law_made
  b_law_made : Binds K d_law_made ["row"] []
  g_law_made : mg "_law_made" = some (.ref a_law_made)
  a_law_same : Addr
  d_law_same : FuncData
  F_law_same : Fun K "_law_same" "_law_same" s_law_same a_law_same d_law_same
  b_law_same : Binds K d_law_same ["actual", "row"] []
  g_law_same : mg "_law_same" = some (.ref a_law_same)
  a_law : Addr
  d_law : FuncData
  F_law : Fun K "law" "law" s_law a_law d_law
  b_law : Binds K d_law ["script"] []
  g_law : mg "law" = some (.ref a_law)
  C_BitWriter : Addr
  cl_BitWriter : Cls K C_BitWriter
  g_BitWriter : mg "BitWriter" = some (.ref C_BitWriter)
  M_BitWriter : Mk K C_BitWriter a_BitWriter_init
  me_BitWriter_write : Meth K C_BitWriter "write" a_BitWriter_write
  me_BitWriter_append_bytes : Meth K C_BitWriter "append_bytes" a_BitWriter_append_bytes
  me_BitWriter_byte_list : Meth K C_BitWriter "byte_list" a_BitWriter_byte_list
  n_BitWriter_whole : NoAttr K C_BitWriter "_whole"
  n_BitWriter_held : NoAttr K C_BitWriter "_held"
  n_BitWriter_held_bits : NoAttr K C_BitWriter "_held_bits"
  C_BitReader : Addr
  cl_BitReader : Cls K C_BitReader
  g_BitReader : mg "BitReader" = some (.ref C_BitReader)
  M_BitReader : Mk K C_BitReader a_BitReader_init
  me_BitReader_read : Meth K C_BitReader "read" a_BitReader_read
  me_BitReader_read_bytes : Meth K C_BitReader "read_bytes" a_BitReader_read_bytes
  me_BitReader_byte_place : Meth K C_BitReader "byte_place" a_BitReader_byte_place
  me_BitReader_aligned : Meth K C_BitReader "aligned" a_BitReader_aligned
  n_BitReader_data : NoAttr K C_BitReader "_data"
  n_BitReader_position : NoAttr K C_BitReader "_position"
  C_StreamInfo : Addr
  cl_StreamInfo : Cls K C_StreamInfo
  g_StreamInfo : mg "StreamInfo" = some (.ref C_StreamInfo)
  M_StreamInfo : Mk K C_StreamInfo a_StreamInfo_init
  me_StreamInfo_fields : Meth K C_StreamInfo "fields" a_StreamInfo_fields
  me_StreamInfo_fixed_size : Meth K C_StreamInfo "fixed_size" a_StreamInfo_fixed_size
  me_StreamInfo_eq : Meth K C_StreamInfo "__eq__" a_StreamInfo_eq
  n_StreamInfo_least_block : NoAttr K C_StreamInfo "least_block"
  n_StreamInfo_greatest_block : NoAttr K C_StreamInfo "greatest_block"
  n_StreamInfo_least_frame : NoAttr K C_StreamInfo "least_frame"
  n_StreamInfo_greatest_frame : NoAttr K C_StreamInfo "greatest_frame"
  n_StreamInfo_rate : NoAttr K C_StreamInfo "rate"
  n_StreamInfo_channel_count : NoAttr K C_StreamInfo "channel_count"
  n_StreamInfo_depth : NoAttr K C_StreamInfo "depth"
  n_StreamInfo_length : NoAttr K C_StreamInfo "length"
  n_StreamInfo_digest : NoAttr K C_StreamInfo "digest"
  ty_StreamInfo : TyC K C_StreamInfo
  ki_StreamInfo_StreamInfo : PySem.W.kitOne K (.ref C_StreamInfo) (.ref C_StreamInfo) = some true
  nf_StreamInfo_StreamInfo : PySem.W.notFirst K C_StreamInfo (.ref C_StreamInfo) = true
  ki_StreamInfo_int : PySem.W.kitOne K (.type "int") (.ref C_StreamInfo) = some false
  nf_StreamInfo_int : PySem.W.notFirst K C_StreamInfo (.type "int") = true
  ki_StreamInfo_tuple : PySem.W.kitOne K (.type "tuple") (.ref C_StreamInfo) = some false
  nf_StreamInfo_tuple : PySem.W.notFirst K C_StreamInfo (.type "tuple") = true
  C_MonochordError : Addr
  g_MonochordError : mg "MonochordError" = some (.ref C_MonochordError)
  x_MonochordError : ExK K C_MonochordError a_MonochordError_init "MonochordError"
  C_Truncated : Addr
  g_Truncated : mg "Truncated" = some (.ref C_Truncated)
  x_Truncated : ExK K C_Truncated a_MonochordError_init "Truncated"
  C_InvalidForm : Addr
  g_InvalidForm : mg "InvalidForm" = some (.ref C_InvalidForm)
  x_InvalidForm : ExK K C_InvalidForm a_MonochordError_init "InvalidForm"
  C_Disagreement : Addr
  g_Disagreement : mg "Disagreement" = some (.ref C_Disagreement)
  x_Disagreement : ExK K C_Disagreement a_MonochordError_init "Disagreement"
  ti_MonochordError_init : PySem.W.typeIn K (.ref a_MonochordError_init) = some (.type "function")
  sv_MonochordError : PySem.W.subIn K (.ref C_MonochordError) (.type "ValueError") = some true
  su_MonochordError_MonochordError : PySem.W.subIn K (.ref C_MonochordError) (.ref C_MonochordError) = some true
  su_MonochordError_Truncated : PySem.W.subIn K (.ref C_MonochordError) (.ref C_Truncated) = some false
  su_MonochordError_InvalidForm : PySem.W.subIn K (.ref C_MonochordError) (.ref C_InvalidForm) = some false
  su_MonochordError_Disagreement : PySem.W.subIn K (.ref C_MonochordError) (.ref C_Disagreement) = some false
  sv_Truncated : PySem.W.subIn K (.ref C_Truncated) (.type "ValueError") = some true
  su_Truncated_MonochordError : PySem.W.subIn K (.ref C_Truncated) (.ref C_MonochordError) = some true
  su_Truncated_Truncated : PySem.W.subIn K (.ref C_Truncated) (.ref C_Truncated) = some true
  su_Truncated_InvalidForm : PySem.W.subIn K (.ref C_Truncated) (.ref C_InvalidForm) = some false
  su_Truncated_Disagreement : PySem.W.subIn K (.ref C_Truncated) (.ref C_Disagreement) = some false
  sv_InvalidForm : PySem.W.subIn K (.ref C_InvalidForm) (.type "ValueError") = some true
  su_InvalidForm_MonochordError : PySem.W.subIn K (.ref C_InvalidForm) (.ref C_MonochordError) = some true
  su_InvalidForm_Truncated : PySem.W.subIn K (.ref C_InvalidForm) (.ref C_Truncated) = some false
  su_InvalidForm_InvalidForm : PySem.W.subIn K (.ref C_InvalidForm) (.ref C_InvalidForm) = some true
  su_InvalidForm_Disagreement : PySem.W.subIn K (.ref C_InvalidForm) (.ref C_Disagreement) = some false
  sv_Disagreement : PySem.W.subIn K (.ref C_Disagreement) (.type "ValueError") = some true
  su_Disagreement_MonochordError : PySem.W.subIn K (.ref C_Disagreement) (.ref C_MonochordError) = some true
  su_Disagreement_Truncated : PySem.W.subIn K (.ref C_Disagreement) (.ref C_Truncated) = some false
  su_Disagreement_InvalidForm : PySem.W.subIn K (.ref C_Disagreement) (.ref C_InvalidForm) = some false
  su_Disagreement_Disagreement : PySem.W.subIn K (.ref C_Disagreement) (.ref C_Disagreement) = some true
  m_list : mg "list" = none
  m_len : mg "len" = none
  m_range : mg "range" = none
  m_isinstance : mg "isinstance" = none
  m_int : mg "int" = none
  m_bool : mg "bool" = none
  m_all : mg "all" = none
  m_tuple : mg "tuple" = none
  u_LENGTH : Value
  c_LENGTH : mg "_LENGTH" = some u_LENGTH
  r_LENGTH : RelV (.int (34)) u_LENGTH
  u_LEAST_BLOCK : Value
  c_LEAST_BLOCK : mg "_LEAST_BLOCK" = some u_LEAST_BLOCK
  r_LEAST_BLOCK : RelV (.int (16)) u_LEAST_BLOCK
  u_LEAST_DEPTH : Value
  c_LEAST_DEPTH : mg "_LEAST_DEPTH" = some u_LEAST_DEPTH
  r_LEAST_DEPTH : RelV (.int (4)) u_LEAST_DEPTH
section
variable {P : Program} {w : World} {K : PySem.W.Frag} {mg : Str → Option Value} {base : Heap}
/-! ### int(x), bits of a number -/
theorem Ev.is {σ : L2.St} {H : Hp} {te : TE} {x y : V} (h : Ev te σ H x) (e : x = y) : Ev te σ H y := e ▸ h
theorem ev_int1 {σ : L2.St} {H : Hp} {te : TE} {i : Int} (h : Ev te σ H (.int i)) : Ev (tCB (fun xs H Q => (∃ i, xs = [V.int i] ∧ Q (V.int i) H) ∨ ∃ k, xs = [V.bl k] ∧ Q (V.int (if k = true then 1 else 0)) H) (tCons te tNil)) σ H (.int i) :=
  ev_cb (ea_cons h ea_nil) fun H1 _ Q q => .inl ⟨i, rfl, q H1 (Ex.refl H1)⟩
theorem q_augR {σ : L2.St} {H : Hp} {te : TE} {D : Ends} {tz : TS} {i : Nat} {g : Int → Int → V} {a b : Int} (h1 : σ[i]? = some (some (.int a))) (h : Ev te σ H (.int b)) (k : ∀ H1, Ex H H1 → tz D (σ.set i (some (g a b))) H1) : tSeq (tAug i te (rI0 g)) tz D σ H :=
  ⟨_, h1, h H (Ex.refl H) _ fun H1 e => ⟨a, b, rfl, rfl, k H1 e⟩⟩
theorem s_augR {σ : L2.St} {H : Hp} {te : TE} {D : Ends} {i : Nat} {g : Int → Int → V} {a b : Int} (h1 : σ[i]? = some (some (.int a))) (h : Ev te σ H (.int b)) (k : ∀ H1, Ex H H1 → D.nx (σ.set i (some (g a b))) H1) : tAug i te (rI0 g) D σ H :=
  ⟨_, h1, h H (Ex.refl H) _ fun H1 e => ⟨a, b, rfl, rfl, k H1 e⟩⟩
theorem ev_atT {K : PySem.W.Frag} {σ : L2.St} {H : Hp} {tl ti : TE} {t : Addr} {xs : List V} {n : Int} {v : V} (h : Ev tl σ H (.ref t)) (hT : SqT K H t xs) (hi : Ev ti σ H (.int n)) (ha : atI xs n = some v) : Ev (tOp (rIxT K) tl ti) σ H v := fun H1 e Q q =>
  h H1 e _ fun H2 e2 => hi H2 (e.trans e2) _ fun H3 e3 => ⟨t, xs, n, v, rfl, rfl, ex_t ((e.trans e2).trans e3) hT, ha, q H3 (e2.trans e3)⟩
local macro_rules | `(tactic| walk_at "side") => `(tactic| first
  | omega
  | (show CDivW _ _; exact ⟨by omega, by decide⟩)
  | (show CDivW _ _; exact wide_div (b := 80) (by omega) (by omega) (by decide) (by decide)))
local macro_rules | `(tactic| walk_at "evown") => `(tactic| (refine' ev_int1 ?h1; (case h1 => walk_at "ev")))
/-- numbers from 0 on, as such -/
def cs (ds : List Nat) : List Int := ds.map fun d : Nat => (d : Int)
theorem cs_of {ns : List Int} {b : Int} (h : ∀ n ∈ ns, 0 ≤ n ∧ n < b) : ∃ ds : List Nat, ns = cs ds ∧ ds.length = ns.length ∧ ∀ d ∈ ds, (d : Int) < b := by
  refine ⟨ns.map Int.toNat, ?_, List.length_map .., fun d hd => ?_⟩
  · unfold cs
    rw [List.map_map]
    conv => lhs; rw [← List.map_id ns]
    refine List.map_congr_left fun n hn => ?_
    have := (h n hn).1
    show n = ((n.toNat : Nat) : Int)
    omega
  · obtain ⟨n, hn, rfl⟩ := List.mem_map.mp hd
    have := h n hn
    omega
theorem cs_len (ds : List Nat) : (cs ds).length = ds.length := List.length_map ..
theorem cs_at {ds : List Nat} {i : Nat} {d : Nat} (h : ds[i]? = some d) : (cs ds)[i]? = some (d : Int) := by unfold cs; rw [List.getElem?_map, h]; rfl
theorem cs_take (ds : List Nat) (i : Nat) : (cs ds).take i = cs (ds.take i) := by unfold cs; rw [List.map_take]
theorem cs_drop (ds : List Nat) (i : Nat) : (cs ds).drop i = cs (ds.drop i) := by unfold cs; rw [List.map_drop]
theorem cs_append (ds es : List Nat) : cs (ds ++ es) = cs ds ++ cs es := List.map_append ..

theorem ev_all {σ : L2.St} {H : Hp} {te : TE} {bs : List Bool} {b : Bool} (h : EvS K te σ H (bs.map V.bl)) (hb : bs.all id = b) : Ev (tCB (rAll K) (tCons te tNil)) σ H (.bl b) := fun H1 e Q q => h H1 e _ fun p H2 e2 hp => ⟨p, bs, rfl, hp, by rw [hb]; exact q H2 e2⟩

/-! ### own errors, made and looked at -/
theorem kitOne_ref {D C : Addr} {b : Bool} {fI : Addr} {nm : Str} (x : ExK K C fI nm) (h : PySem.W.subIn K (.ref D) (.ref C) = some b) (hD : PySem.W.subIn K (.ref D) (.ref D) = some true) : PySem.W.kitOne K (.ref D) (.ref C) = some b := by
  unfold PySem.W.kitOne
  by_cases e : D = C
  · subst e
    rw [hD] at h
    rw [if_pos (beq_self_eq_true _), ← h]
  · rw [if_neg (fun z => e (Value.ref.inj (beq_iff_eq.mp z)))]
    obtain ⟨cd, hc, _⟩ := PySem.W.any_some x.ex.hd
    show (if ((PySem.W.clsIn K C).isSome && PySem.W.typeIn K (.ref C) == some (.type "type")) = true then PySem.W.subIn K (.ref D) (.ref C) else none) = some b
    rw [if_pos (by rw [hc, x.tyC] <;> rfl), h]
theorem kitOne_VE {D : Addr} (h : PySem.W.subIn K (.ref D) (.type "ValueError") = some true) : PySem.W.kitOne K (.ref D) (.type "ValueError") = some true := by
  unfold PySem.W.kitOne
  rw [if_neg (fun z => by cases beq_iff_eq.mp z)]
  show (if PySem.W.kitMeta "ValueError" = true then PySem.W.subIn K (.ref D) (.type "ValueError") else none) = some true
  rw [if_pos (by decide +kernel), h]
theorem exm_su {D C : Addr} {b : Bool} {fI : Addr} {nm : Str} (x : ExK K C fI nm) (h : PySem.W.subIn K (.ref D) (.ref C) = some b) : PySem.W.exmOne K (.ref D) (.ref C) = some b := PySem.W.exm_ref x.ex.hs x.ex.hd x.tyC h
theorem ok_MonochordError_init (T : TX K mg) : FnOk P w K mg base CX0 1 T.a_MonochordError_init T.d_MonochordError_init ["self", "place"] (sp_einit K) := by
  refine T.F_MonochordError_init.ok sc_MonochordError_init (fun vs H Q E h => by obtain ⟨a, C, fI, nm, n, rfl, _⟩ := h; rfl) (fun cdv A outer s H vs Q E hr h => ?_)
  obtain ⟨a, C, fI, nm, n, rfl, T1, ha, k⟩ := h
  refine ⟨_, (pss_cons (ps_ost (pv 0) (pv 1))
      (pss_one (ps_ost (pv 0) (pe_clsname (pv 0))))), ?_⟩
  refine ⟨.int n, rfl, .ref a, rfl, a, C, rfl, T1.ox, T1.nP, .inl ⟨ha, fun dx hdx ne => ?_⟩⟩
  have h2 : upd (upd H dx (exd dx [("place", .int n)])) a (exo a C (some dx)) dx = some (exd dx [("place", .int n)]) := by rw [upd_ne ne]; exact upd_same
  refine ⟨.ref a, rfl, a, C, dx, [("place", .int n)], fI, nm, rfl, T1, upd_same, h2, .ref a, rfl, a, C, rfl, T1.ox, T1.nN, .inr ⟨dx, [("place", .int n)], upd_same, h2, Nat.le_of_ble_eq_true rfl, ?_⟩⟩
  refine k dx _ hdx ne (fun b o nb hb => ?_) ?_ upd_same
  · have nd : b ≠ dx := fun z => by rw [z, hdx] at hb; cases hb
    rw [upd_ne nd, upd_ne nb, upd_ne nd]
    exact hb
  · rw [upd_ne ne.symm]
    exact upd_same
/-- isinstance(error, c), error.f in the suite that holds it -/
theorem ev_isA {σ : L2.St} {H : Hp} {te : TE} {a C C2 dd : Addr} {cls : Value} {d : Option Addr} {fs : List (Str × V)} {b : Bool} (ha : Ev te σ H (.ref a)) (hc : cls = .ref C) (T : ExcC K C) (hd : d = some dd) (hx : H dd = some (.xd fs)) (hk : PySem.W.kitOne K (.ref C) (.ref C2) = some b) :
    Ev (tCB (rIsA K cls d a) (tCons te (tCons (tC (.ref C2)) tNil))) σ H (.bl b) := fun H1 e Q q =>
  ha H1 e _ fun H2 e2 => ⟨C, .ref C2, .ref C2, b, dd, fs, hc, T, hd, (e.trans e2) _ _ hx, rfl, fun u r => r, hk, q H2 e2⟩
theorem ev_isVE {σ : L2.St} {H : Hp} {te : TE} {a C dd : Addr} {cls : Value} {d : Option Addr} {fs : List (Str × V)} {b : Bool} (ha : Ev te σ H (.ref a)) (hc : cls = .ref C) (T : ExcC K C) (hd : d = some dd) (hx : H dd = some (.xd fs)) (hk : PySem.W.kitOne K (.ref C) (.type "ValueError") = some b) :
    Ev (tCB (rIsA K cls d a) (tCons te (tCons (tC (.ty "ValueError")) tNil))) σ H (.bl b) := fun H1 e Q q =>
  ha H1 e _ fun H2 e2 => ⟨C, .ty "ValueError", .type "ValueError", b, dd, fs, hc, T, hd, (e.trans e2) _ _ hx, rfl, fun u r => r, hk, q H2 e2⟩
theorem ev_xfA {σ : L2.St} {H : Hp} {te : TE} {a C dd : Addr} {cls : Value} {d : Option Addr} {f : Str} {fs : List (Str × V)} {v : V} (ha : Ev te σ H (.ref a)) (hc : cls = .ref C) (T : XfC K C) (hn : PySem.W.findIn K (.ref C) f = some none) (hd : d = some dd) (hx : H dd = some (.xd fs)) (hl : fs.lookup f = some v) :
    Ev (tXfA K a cls d f te) σ H v := fun H1 e Q q => ha H1 e _ fun H2 e2 => ⟨rfl, C, hc, T, hn, dd, fs, v, hd, (e.trans e2) _ _ hx, hl, q H2 e2⟩
/-! o.m(..) that may let an error out -/
section
variable {σ : L2.St} {H : Hp} {to : TE} {a C dx : Addr} {fs : List (Str × V)} {m : Str} {D : Ends} {tz : TS} {sp : Sp} {dvs vs : List V} {E : L2.St → XK} {t : TA} {v : V}
theorem mthX (h : Ev to σ H (.ref a)) (hx : H a = some (.ins C dx fs)) (hm : fs.lookup m = none) (ha : EvA t σ H vs) {Q : VK} (k : ∀ H1, Ex H H1 → sp (.ref a :: (vs ++ dvs)) H1 Q (E σ)) : tMethX C m sp dvs E to t σ H Q :=
  h H (Ex.refl H) _ fun H1 e1 => ⟨a, dx, fs, rfl, e1 _ _ hx, hm, ha H1 e1 _ fun H2 e2 => k H2 (e1.trans e2)⟩
theorem q_asgMX {i : Nat} (h : Ev to σ H (.ref a)) (hx : H a = some (.ins C dx fs)) (hm : fs.lookup m = none) (ha : EvA t σ H vs) (k : ∀ H1, Ex H H1 → sp (.ref a :: (vs ++ dvs)) H1 (fun x H2 => tz D (σ.set i (some x)) H2) (E σ)) : tSeq (tAsg (tMethX C m sp dvs E to t) (gName i)) tz D σ H := mthX h hx hm ha k
theorem s_retMX (h : Ev to σ H (.ref a)) (hx : H a = some (.ins C dx fs)) (hm : fs.lookup m = none) (ha : EvA t σ H vs) (k : ∀ H1, Ex H H1 → sp (.ref a :: (vs ++ dvs)) H1 D.rt (E σ)) : tRet (tMethX C m sp dvs E to t) D σ H := mthX h hx hm ha k
theorem q_asgCX {i : Nat} (h : EvA t σ H vs) (k : ∀ H1, Ex H H1 → sp (vs ++ dvs) H1 (fun x H2 => tz D (σ.set i (some x)) H2) (E σ)) : tSeq (tAsg (tCallX sp dvs E t) (gName i)) tz D σ H := h H (Ex.refl H) _ fun H1 e => k H1 e
theorem s_retCX (h : EvA t σ H vs) (k : ∀ H1, Ex H H1 → sp (vs ++ dvs) H1 D.rt (E σ)) : tRet (tCallX sp dvs E t) D σ H := h H (Ex.refl H) _ fun H1 e => k H1 e
end

/-! ### from what is evaluated to what follows -/
theorem ev_go {te : TE} {σ : L2.St} {H : Hp} {v : V} {Q : VK} (h : Ev te σ H v) (k : ∀ H2, Ex H H2 → Q v H2) : te σ H Q := h H (Ex.refl H) Q k
theorem et_go {t : TT} {σ : L2.St} {H : Hp} {b : Bool} {Q : Bool → Hp → Prop} (h : EvT t σ H b) (k : ∀ H2, Ex H H2 → Q b H2) : t σ H Q := h H (Ex.refl H) Q k
theorem el_go {te : TE} {σ : L2.St} {H : Hp} {xs : List V} {Q : VK} (h : EvL te σ H xs) (k : ∀ p H2, H p = none → Ex H H2 → H2 p = some (.lst xs) → Q (.ref p) H2) : te σ H Q := h H (Ex.refl H) Q k
theorem eu_go {te : TE} {σ : L2.St} {H : Hp} {xs : List V} {Q : VK} (h : EvU te σ H xs) (k : ∀ p H2, H p = none → Ex H H2 → H2 p = some (.tup xs) → Q (.ref p) H2) : te σ H Q := h H (Ex.refl H) Q k
theorem ea_go {t : TA} {σ : L2.St} {H : Hp} {vs : List V} {Q : List V → Hp → Prop} (h : EvA t σ H vs) (k : ∀ H2, Ex H H2 → Q vs H2) : t σ H Q := h H (Ex.refl H) Q k
/-! ### the law's state, a list of two numbers, which draws change -/
theorem et_tru {σ : L2.St} {H : Hp} {te : TE} {a : Addr} {xs : List V} (h : Ev te σ H (.ref a)) (hs : SqL K H a xs) : EvT (fun σ H Q => te σ H fun x H' => ∃ k, TruV K x H' k ∧ Q k H') σ H (!xs.isEmpty) := fun H1 e Q q => h H1 e _ fun H2 e2 => ⟨_, .inl ⟨xs, ex_l (e.trans e2) hs, rfl⟩, q H2 e2⟩
def StAt (H : Hp) (s : Addr) : Prop := ∃ k c : Int, H s = some (.lst [.int k, .int c])
def Fr (s : Addr) (H H' : Hp) : Prop := (∀ b o, b ≠ s → H b = some o → H' b = some o) ∧ StAt H' s
theorem Fr.refl {s : Addr} {H : Hp} (st : StAt H s) : Fr s H H := ⟨fun _ _ _ h => h, st⟩
theorem Fr.ex {s : Addr} {H H' : Hp} (st : StAt H s) (e : Ex H H') : Fr s H H' := ⟨fun b o _ h => e b o h, by obtain ⟨k, c, h⟩ := st; exact ⟨k, c, e _ _ h⟩⟩
theorem Fr.trans {s : Addr} {H H1 H2 : Hp} (h : Fr s H H1) (g : Fr s H1 H2) : Fr s H H2 := ⟨fun b o n e => g.1 b o n (h.1 b o n e), g.2⟩
theorem Fr.tex {s : Addr} {H H1 H2 : Hp} (h : Fr s H H1) (e : Ex H1 H2) : Fr s H H2 := h.trans (Fr.ex h.2 e)
theorem Fr.fresh {s p : Addr} {H H' : Hp} (h : Fr s H H') (hp : H' p = none) : H p = none := by
  have hs : p ≠ s := by
    rintro rfl
    obtain ⟨k, c, g⟩ := h.2
    rw [g] at hp
    cases hp
  cases e : H p with
  | none => rfl
  | some o =>
    have := h.1 p o hs e
    rw [this] at hp
    cases hp
theorem ne_st {s p : Addr} {H : Hp} (st : StAt H s) (hp : H p = none) : p ≠ s := by
  rintro rfl
  obtain ⟨k, c, g⟩ := st
  rw [g] at hp
  cases hp
theorem Fr.mut {s p : Addr} {H H1 : Hp} {o : HO} (h : Fr s H H1) (hp : H p = none) (hs : p ≠ s) : Fr s H (upd H1 p o) := ⟨fun b u n e => by rw [upd_ne (ne_of_none e hp)]; exact h.1 b u n e, by obtain ⟨k, c, g⟩ := h.2; exact ⟨k, c, by rw [upd_ne (Ne.symm hs)]; exact g⟩⟩
theorem Fr.l {s a : Addr} {H H' : Hp} {xs : List V} (h : Fr s H H') (hs : a ≠ s) (q : H a = some (.lst xs)) : H' a = some (.lst xs) := h.1 a _ hs q
/-- a list, seen through all draws -/
def Scr (K : PySem.W.Frag) (s a : Addr) (H : Hp) (xs : List V) : Prop := ∀ H', Fr s H H' → SqL K H' a xs
theorem scr_mk {s a : Addr} {H H1 : Hp} {xs : List V} (hs : H s = none) (e : Ex H H1) (q : SqL K H a xs) : Scr K s a H1 xs := fun H' fr => by
  rcases q with q | q
  · rcases q with q | ⟨o, q⟩
    · exact .inl (.inl (fr.1 _ _ (ne_of_none q hs) (e _ _ q)))
    · exact .inl (.inr ⟨o, fr.1 _ _ (ne_of_none q hs) (e _ _ q)⟩)
  · exact .inr q
def DrS (K : PySem.W.Frag) (H : Hp) (s a : Addr) (ns : List Int) : Prop := StAt H s ∧ Scr K s a H (ns.map V.int)
theorem DrS.fr {H H' : Hp} {s a : Addr} {ns : List Int} (h : DrS K H s a ns) (f : Fr s H H') : DrS K H' s a ns := ⟨f.2, fun H2 g => h.2 H2 (f.trans g)⟩
theorem DrS.ex {H H' : Hp} {s a : Addr} {ns : List Int} (h : DrS K H s a ns) (e : Ex H H') : DrS K H' s a ns := h.fr (Fr.ex h.1 e)
theorem DrS.sq {H : Hp} {s a : Addr} {ns : List Int} (h : DrS K H s a ns) : SqL K H a (ns.map V.int) := h.2 H (Fr.refl h.1)
/-! numbers, tests that draw on the way -/
def EvI (s : Addr) (te : TE) (σ : L2.St) (H : Hp) (p : Int → Prop) : Prop := ∀ Q : VK, (∀ i H2, Fr s H H2 → p i → Q (.int i) H2) → te σ H Q
def EvTW (s : Addr) (t : TT) (σ : L2.St) (H : Hp) (p : Bool → Prop) : Prop := ∀ Q : Bool → Hp → Prop, (∀ b H2, Fr s H H2 → p b → Q b H2) → t σ H Q
section
variable {s : Addr} {σ : L2.St} {H : Hp} {ta tb te : TE} {p q : Int → Prop}
theorem wi_ev {i : Int} (st : StAt H s) (h : Ev te σ H (.int i)) : EvI s te σ H (fun z => z = i) := fun Q q => h H (Ex.refl H) _ fun H2 e2 => q i H2 (Fr.ex st e2) rfl
theorem wi_imp {p q : Int → Prop} (h : EvI s te σ H p) (hi : ∀ z, p z → q z) : EvI s te σ H q := fun Q k => h Q fun i H2 f hp => k i H2 f (hi i hp)
theorem wi_op {g : Int → Int → Int} (ha : EvI s ta σ H p) (hb : ∀ H1, Fr s H H1 → EvI s tb σ H1 q) : EvI s (tOp (rI0 fun i j => .int (g i j)) ta tb) σ H (fun z => ∃ i j, p i ∧ q j ∧ z = g i j) := fun Q k =>
  ha _ fun i H1 f1 hp => hb H1 f1 _ fun j H2 f2 hq => ⟨i, j, rfl, rfl, k _ H2 (f1.trans f2) ⟨i, j, hp, hq, rfl⟩⟩
theorem wi_opC {C : Int → Int → Prop} {g : Int → Int → Int} (ha : EvI s ta σ H p) (hb : ∀ H1, Fr s H H1 → EvI s tb σ H1 q) (hc : ∀ i j, p i → q j → C i j) : EvI s (tOp (rI C fun i j => .int (g i j)) ta tb) σ H (fun z => ∃ i j, p i ∧ q j ∧ z = g i j) := fun Q k =>
  ha _ fun i H1 f1 hp => hb H1 f1 _ fun j H2 f2 hq => ⟨i, j, rfl, rfl, hc i j hp hq, k _ H2 (f1.trans f2) ⟨i, j, hp, hq, rfl⟩⟩
theorem wt_cmp {g : Int → Int → Bool} (ha : EvI s ta σ H p) (hb : ∀ H1, Fr s H H1 → EvI s tb σ H1 q) : EvTW s (tTest (tOp (rI0 fun i j => .bl (g i j)) ta tb)) σ H (fun b => ∃ i j, p i ∧ q j ∧ b = g i j) := fun Q k =>
  ha _ fun i H1 f1 hp => hb H1 f1 _ fun j H2 f2 hq => ⟨i, j, rfl, rfl, g i j, rfl, k _ H2 (f1.trans f2) ⟨i, j, hp, hq, rfl⟩⟩
theorem wt_eq (ha : EvI s ta σ H p) (hb : ∀ H1, Fr s H H1 → EvI s tb σ H1 q) : EvTW s (tTest (tOp rEq ta tb)) σ H (fun b => ∃ i j, p i ∧ q j ∧ b = decide (i = j)) := fun Q k =>
  ha _ fun i H1 f1 hp => hb H1 f1 _ fun j H2 f2 hq => ⟨rfl, decide (V.int i = V.int j), rfl, k _ H2 (f1.trans f2) ⟨i, j, hp, hq, by simp⟩⟩
theorem wt_ev {t : TT} {b : Bool} (st : StAt H s) (h : EvT t σ H b) : EvTW s t σ H (fun z => z = b) := fun Q q => h H (Ex.refl H) _ fun H2 e2 => q b H2 (Fr.ex st e2) rfl
theorem wt_and {t u : TT} {p q : Bool → Prop} (h1 : EvTW s t σ H p) (h2 : ∀ H1, Fr s H H1 → p true → EvTW s u σ H1 q) : EvTW s (tAnd t u) σ H (fun b => (p false ∧ b = false) ∨ (p true ∧ q b)) := fun Q k => h1 _ fun b H1 f1 hb => by
  cases b with
  | true => exact h2 H1 f1 hb _ fun c H2 f2 hc => k c H2 (f1.trans f2) (.inr ⟨hb, hc⟩)
  | false => exact k false H1 f1 (.inl ⟨hb, rfl⟩)
theorem wt_not {t : TT} {p : Bool → Prop} (h1 : EvTW s t σ H p) : EvTW s (tNot t) σ H (fun b => p (!b)) := fun Q k => h1 _ fun b H1 f1 hb => k (!b) H1 f1 (by show p (!!b); rw [Bool.not_not]; exact hb)
variable {D : Ends} {tz tu : TS}
theorem qw_asg {j : Nat} (h : EvI s te σ H p) (k : ∀ i H1, Fr s H H1 → p i → tz D (σ.set j (some (.int i))) H1) : tSeq (tAsg te (gName j)) tz D σ H := h _ k
theorem sw_asg {j : Nat} (h : EvI s te σ H p) (k : ∀ i H1, Fr s H H1 → p i → D.nx (σ.set j (some (.int i))) H1) : tAsg te (gName j) D σ H := h _ k
theorem sw_ret (h : EvI s te σ H p) (k : ∀ i H1, Fr s H H1 → p i → D.rt (.int i) H1) : tRet te D σ H := h _ k
theorem qw_when {t : TT} {p : Bool → Prop} (h : EvTW s t σ H p) (h1 : p true → ∀ H1, Fr s H H1 → tu { D with nx := tz D } σ H1) (h2 : p false → ∀ H1, Fr s H H1 → tz D σ H1) : tSeq (tIfS t tu tNext) tz D σ H := h _ fun b H1 f hb => by
  cases b with
  | true => exact h1 hb H1 f
  | false => exact h2 hb H1 f
theorem sw_when {t : TT} {p : Bool → Prop} (h : EvTW s t σ H p) (h1 : p true → ∀ H1, Fr s H H1 → tu D σ H1) (h2 : p false → ∀ H1, Fr s H H1 → D.nx σ H1) : tIfS t tu tNext D σ H := h _ fun b H1 f hb => by
  cases b with
  | true => exact h1 hb H1 f
  | false => exact h2 hb H1 f
theorem sw_if {t : TT} {tw : TS} {p : Bool → Prop} (h : EvTW s t σ H p) (h1 : p true → ∀ H1, Fr s H H1 → tu D σ H1) (h2 : p false → ∀ H1, Fr s H H1 → tw D σ H1) : tIfS t tu tw D σ H := h _ fun b H1 f hb => by
  cases b with
  | true => exact h1 hb H1 f
  | false => exact h2 hb H1 f
theorem qw_forR1 {j : Nat} (h : EvI s te σ H p) (hp : ∀ i, p i → 0 ≤ i ∧ i ≤ 100000) (Pv : Int → Nat → L2.St → Hp → Prop) (h0 : ∀ n H1, p n → Fr s H H1 → Pv n 0 σ H1)
    (hs : ∀ n (i : Nat) σ' H', p n → (i : Int) < n → Pv n i σ' H' → tu { D with nx := Pv n (i + 1), ct := Pv n (i + 1), bk := tz D } (σ'.set j (some (.int (i : Int)))) H') (hd : ∀ n σ' H', p n → Pv n n.toNat σ' H' → tz D σ' H') : tSeq (tFor (iRng1 (tCons te tNil)) (gName j) tu) tz D σ H :=
  h _ fun n H1 f hn => ⟨n, rfl, by have := hp n hn; omega, by have := hp n hn; omega, for_range (D := { D with nx := tz D }) (lo := 0) (n := n.toNat) (Pv n) (h0 n H1 hn f) (fun i σ' H' hi q => by
    have e0 : (0 : Int) + (i : Int) = (i : Int) := Int.zero_add _
    show tu { D with nx := Pv n (i + 1), ct := Pv n (i + 1), bk := tz D } (σ'.set j (some (.int ((0 : Int) + (i : Int))))) H'
    rw [e0]
    exact hs n i σ' H' hn (by have := hp n hn; omega) q) fun σ' H' q => hd n σ' H' hn q⟩
end
/-- [e for j in range(n)] whose element draws -/
theorem tlc_rngW {ta : TA} {te : TE} {vs : List Nat} {n : Int} {j : Nat} {σ : L2.St} {H : Hp} {Q : VK} (h : EvA ta σ H [.int n]) (hn : -100000 ≤ n ∧ n ≤ 100000)
    (k : ∀ H1, Ex H H1 → ∀ Dl, H1 Dl = none → ∃ Pv : Nat → Hp → Prop, Pv 0 (upd H1 Dl (.lst [])) ∧ (∀ (i : Nat) H', i < n.toNat → Pv i H' → wipe ((wipe σ vs).set j (some (.int (i : Int)))) vs = wipe σ vs ∧ te ((wipe σ vs).set j (some (.int (i : Int)))) H' fun y H4 => ∃ acc, H4 Dl = some (.lst acc) ∧ acc.length < sizeLine ∧ Pv (i + 1) (upd H4 Dl (.lst (acc ++ [y])))) ∧ (∀ H', Pv n.toNat H' → Q (.ref Dl) H')) :
    tLc (iRng1 ta) (gName j) tYes te vs σ H Q := h H (Ex.refl H) _ fun H1 e1 => ⟨n, rfl, by omega, by omega, fun Dl hD => by
  obtain ⟨Pv, h0, hs, hd⟩ := k H1 e1 Dl hD
  refine lc_range (lo := 0) (n := n.toNat) Pv h0 (fun i H' hi p => ?_) hd
  rw [Int.zero_add]
  exact hs i H' hi p⟩
/-- xs[j] = e, e of a kind -/
theorem q_setLR {σ : L2.St} {H : Hp} {te ta tb : TE} {l : Addr} {xs : List V} {j : Nat} {D : Ends} {tz : TS} {P : V → Prop} (h : ∀ Q : VK, (∀ v H1, Ex H H1 → P v → Q v H1) → te σ H Q) (hl : H l = some (.lst xs)) (ho : ∀ H1, Ev ta σ H1 (.ref l)) (hi : ∀ H1, Ev tb σ H1 (.int (j : Int))) (hj : j < xs.length) (k : ∀ v H1, P v → Ex H H1 → tz D σ (upd H1 l (.lst (xs.set j v)))) : tSeq (tAsg te (gSub ta tb rSetL)) tz D σ H :=
  h _ fun v H1 e1 hv => ho H1 H1 (Ex.refl _) _ fun H2 e2 => hi H2 H2 (Ex.refl _) _ fun H3 e3 => ⟨l, xs, (j : Int), j, rfl, rfl, ((e1.trans e2).trans e3) l _ hl, ixN_nat hj, k v H3 hv ((e1.trans e2).trans e3)⟩
/-! ### the law's draws -/
def sp_isint : Sp := fun vs H Q _ => ∃ n : Int, vs = [.int n] ∧ RetV (.bl true) H Q
theorem ok_law_is_integer (T : TX K mg) : FnOk P w K mg base CX0 1 T.a_law_is_integer T.d_law_is_integer ["actual"] sp_isint := by
  refine T.F_law_is_integer.ok sc_law_is_integer (fun vs H Q E h => by obtain ⟨n, rfl, _⟩ := h; rfl) (fun cdv A outer s H vs Q E hr h => ?_)
  obtain ⟨n, rfl, k⟩ := h
  refine ⟨_, (pss_one (ps_ret (pe_and (pe_callB (r := rIsi K) call_isi (by rfl) T.m_isinstance PyProof.Rows.boot_isinstance (pa_cons (pv 0) (pa_cons (pe_bltn (v := V.ty "int") (by rfl) T.m_int PyProof.Rows.boot_int rfl) pa_nil))) (pe_one (pe_not (pe_callB (r := rIsi K) call_isi (by rfl) T.m_isinstance PyProof.Rows.boot_isinstance (pa_cons (pv 0) (pa_cons (pe_bltn (v := V.ty "bool") (by rfl) T.m_bool PyProof.Rows.boot_bool rfl) pa_nil)))))))), ?_⟩
  walk_at "ret"
  intro H2 e2
  exact ret_eq k e2 rfl
theorem ev_isint {σ : L2.St} {H : Hp} {te : TE} {E : XK} {n : Int} (h : Ev te σ H (.int n)) : Ev (tCall sp_isint [] E (tCons te tNil)) σ H (.bl true) := ev_call (ea_cons h ea_nil) fun H1 _ Q q _ => ⟨n, rfl, q⟩

def sp_refill (K : PySem.W.Frag) : Sp := fun vs H Q _ => ∃ (a : Addr) (ns : List Int) (k : Int), vs = [.ref a, .int k] ∧ SqL K H a (ns.map V.int) ∧ ∀ c : Int, RetV (.int c) H Q
theorem ok_law_refill (T : TX K mg) : FnOk P w K mg base CX0 1 T.a_law_refill T.d_law_refill ["script", "k"] (sp_refill K) := by
  refine T.F_law_refill.ok sc_law_refill (fun vs H Q E h => by obtain ⟨a, ns, k, rfl, _⟩ := h; rfl) (fun cdv A outer s0 H vs Q E hr h => ?_)
  obtain ⟨a, ns, k, rfl, hS, q⟩ := h
  refine ⟨_, (pss_cons (ps_set (i := 2) sc_law_refill.nd rfl (Or.inl rfl) pe_int)
      (pss_cons (ps_if (pt_truth (pv 0) (by intro _; rfl)) (pss_one (ps_set (i := 2) sc_law_refill.nd rfl (Or.inl rfl) (pe_ix (r := rIxL K) ix_list (pv 0) (pe_op op_mod (pv 1) (pe_callB (r := rLenS K) call_len_seq (by rfl) T.m_len PySem.boot_len (pa_cons (pv 0) pa_nil))) (fun _ _ => rfl)))) pss_nil)
      (pss_cons (ps_if (pt_cmpR op_lt (pv 2) pe_int (nomark _)) (pss_one (ps_set (i := 2) sc_law_refill.nd rfl (Or.inl rfl) (pe_op op_sub pe_int (pe_op op_mul pe_int (pv 2))))) pss_nil)
      (pss_cons (ps_if (PW.pt (pw_and (pt_cmpR op_ge (pv 2) (pe_op op_pow pe_int pe_int) (nomark _)) (pw_and1 (pt_cmpR op_lt (pv 1) (pe_callB (r := rLenS K) call_len_seq (by rfl) T.m_len PySem.boot_len (pa_cons (pv 0) pa_nil)) (nomark _))))) (pss_one (ps_ret (pv 2))) pss_nil)
      (pss_one (ps_ret (pe_op op_mod (pe_callTy call_int1 (by rfl) T.m_int PyProof.Rows.boot_int (pa_cons (pe_op op_add (pe_op op_mul (pe_callTy call_int1 (by rfl) T.m_int PyProof.Rows.boot_int (pa_cons (pe_op op_add (pe_op op_add (pe_op op_mul (pv 2) pe_int) (pe_op op_mul (pv 1) pe_int)) pe_int) pa_nil)) pe_int) pe_int) pa_nil)) pe_int))))))), ?_⟩
  refine q_asg ev_c fun H1 e1 => ?_
  have hl : (ns.map V.int).length = ns.length := List.length_map ..
  have rest : ∀ (c : Int) (H2 : Hp), Ex H H2 → tSeq (tIfS (tTest (tOp (rI0 fun i j => .bl (decide (i < j))) (tVar 2) (tC (.int 0)))) (tAsg (tOp (rI0 fun i j => .int (i - j)) (tC (.int 1)) (tOp (rI CMul fun i j => .int (i * j)) (tC (.int 2)) (tVar 2))) (gName 2)) tNext) (tSeq (tIfS (tAnd (tTest (tOp (rI0 fun i j => .bl (decide (j ≤ i))) (tVar 2) (tOp (rI CPow fun i j => .int (i ^ j.toNat)) (tC (.int 10)) (tC (.int 18))))) (tTest (tOp (rI0 fun i j => .bl (decide (i < j))) (tVar 1) (tCB (rLenS K) (tCons (tVar 0) tNil))))) (tRet (tVar 2)) tNext) (tRet (tOp (rI (fun _ j => 0 < j) fun i j => .int (i % j)) (tCB (fun xs H Q => (∃ i, xs = [V.int i] ∧ Q (V.int i) H) ∨ ∃ k, xs = [V.bl k] ∧ Q (V.int (if k = true then 1 else 0)) H) (tCons (tOp (rI0 fun i j => .int (i + j)) (tOp (rI CMul fun i j => .int (i * j)) (tCB (fun xs H Q => (∃ i, xs = [V.int i] ∧ Q (V.int i) H) ∨ ∃ k, xs = [V.bl k] ∧ Q (V.int (if k = true then 1 else 0)) H) (tCons (tOp (rI0 fun i j => .int (i + j)) (tOp (rI0 fun i j => .int (i + j)) (tOp (rI CMul fun i j => .int (i * j)) (tVar 2) (tC (.int 48271))) (tOp (rI CMul fun i j => .int (i * j)) (tVar 1) (tC (.int 69621)))) (tC (.int 12345))) tNil)) (tC (.int 40692))) (tC (.int 7))) tNil)) (tC (.int 2147483399))))) { nx := fun _ H' => Q .non H', rt := Q } [some (.ref a), some (.int k), some (.int c)] H2 := fun c H2 e2 => by
    obtain ⟨c1, hc1⟩ : ∃ c1 : Int, (if c < 0 then 1 - 2 * c else c) = c1 := ⟨_, rfl⟩
    refine q_ifAsg (b := decide (c < 0)) (v := .int c1) (et_test (ev_I0 (ev_var rfl) ev_c)) (fun h => Ev.is (ev_I0 ev_c (ev_I ev_c (ev_var rfl) (.inl (by decide)))) (congrArg V.int (by rw [← hc1, if_pos (of_decide_eq_true h)]))) (fun h => by rw [← hc1, if_neg (of_decide_eq_false h)]; rfl) fun H3 e3 => ?_
    refine q_when (et_and (et_test (ev_I0 (ev_var rfl) (ev_I ev_c ev_c ⟨by decide, by decide, by decide⟩))) fun _ => et_test (ev_I0 (ev_var rfl) (ev_lenS (Ev.s (ev_var rfl) (ex_l (e2.trans e3) hS))))) (fun _ H4 e4 => ?_) (fun _ H4 e4 => ?_)
    · exact s_ret (ev_var rfl) fun H5 e5 => (q _).go ((e2.trans e3).trans (e4.trans e5))
    · exact s_ret (ev_I (ev_int1 (ev_I0 (ev_I (ev_int1 (ev_I0 (ev_I0 (ev_I (ev_var rfl) ev_c (.inr (by decide))) (ev_I (ev_var rfl) ev_c (.inr (by decide)))) ev_c)) ev_c (.inr (by decide))) ev_c)) ev_c (by decide)) fun H5 e5 => (q _).go ((e2.trans e3).trans (e4.trans e5))
  refine q_when (et_tru (ev_var rfl) (ex_l e1 hS)) (fun hb H2 e2 => ?_) (fun _ H2 e2 => rest 0 H2 (e1.trans e2))
  have h0 : 0 < ns.length := by
    cases ns with
    | nil => cases hb
    | cons x r => rw [List.length_cons]; omega
  have h1 := Int.emod_nonneg k (show (ns.length : Int) ≠ 0 by omega)
  have h2 := Int.emod_lt_of_pos k (show (0 : Int) < ns.length by omega)
  refine s_asg (v := .int (ns.getD (k % (ns.length : Int)).toNat 0)) (ev_ixS (i := 0) (n := k % (ns.length : Int)) (Ev.s (ev_var rfl) (ex_l (e1.trans e2) hS)) (ev_I (ev_var rfl) (Ev.is (ev_lenS (Ev.s (ev_var rfl) (ex_l (e1.trans e2) hS))) (by rw [hl])) (by omega)) (at_of (j := (k % (ns.length : Int)).toNat) (by omega) (at_int (gl_get (by omega))))) fun H3 e3 => rest _ H3 (e1.trans (e2.trans e3))
def sp_draw (K : PySem.W.Frag) : Sp := fun vs H Q _ => ∃ (s a : Addr) (ns : List Int) (n : Int), vs = [.ref s, .ref a, .int n] ∧ DrS K H s a ns ∧ 0 < n ∧ n ≤ 2 ^ 80 ∧ ∀ (d : Nat) H', (d : Int) < n → Fr s H H' → Q (.int (d : Int)) H'
theorem ok_law_draw (T : TX K mg) : FnOk P w K mg base CX0 2 T.a_law_draw T.d_law_draw ["state", "script", "size"] (sp_draw K) := by
  refine T.F_law_draw.ok sc_law_draw (fun vs H Q E h => by obtain ⟨s, a, ns, n, rfl, _⟩ := h; rfl) (fun cdv A outer s0 H vs Q E hr h => ?_)
  obtain ⟨s, a, ns, n, rfl, hd, hn0, hn, k⟩ := h
  have hn' : n ≤ 1208925819614629174706176 := hn
  have hlog : n.natAbs.log2 < 9000 := by
    have : n.natAbs < 2 ^ 81 := by omega
    have := (Nat.log2_lt (n := n.natAbs) (k := 81) (by omega)).mpr this
    omega
  refine ⟨_, (pss_cut (ps_if (pt_cmpR op_eq (pe_ix (r := rIxL K) ix_list (pv 0) pe_int (fun _ _ => rfl)) pe_int (nomark _)) (pss_cons (ps_asg (pe_call (ok_law_refill T) (hr.mono (by decide)) (by rfl) T.g_law_refill T.F_law_refill.kp T.b_law_refill .nil pass0 (pa_cons (pv 1) (pa_cons (pe_ix (r := rIxL K) ix_list (pv 0) pe_int (fun _ _ => rfl)) pa_nil))) (pg_sub (pv 0) pe_int set_list))
        (pss_one (ps_asg (pe_op op_add (pe_ix (r := rIxL K) ix_list (pv 0) pe_int (fun _ _ => rfl)) pe_int) (pg_sub (pv 0) pe_int set_list)))) pss_nil)
      (pss_cons (ps_set (i := 3) sc_law_draw.nd rfl (Or.inl rfl) (pe_op op_mod (pe_callTy call_int1 (by rfl) T.m_int PyProof.Rows.boot_int (pa_cons (pe_ix (r := rIxL K) ix_list (pv 0) pe_int (fun _ _ => rfl)) pa_nil)) (pv 2)))
      (pss_cons (ps_asg (pe_op op_fdivW (pe_ix (r := rIxL K) ix_list (pv 0) pe_int (fun _ _ => rfl)) (pv 2)) (pg_sub (pv 0) pe_int set_list))
      (pss_one (ps_ret (pv 3)))))), ?_⟩
  refine q_cut (M := fun σ' H' => ∃ kk cc : Int, σ' = [some (.ref s), some (.ref a), some (.int n), none] ∧ (∀ b o, b ≠ s → H b = some o → H' b = some o) ∧ H' s = some (.lst [.int kk, .int cc])) ?_ ?_
  · obtain ⟨kk, cc, g⟩ := hd.1
    refine s_when (et_test (ev_eq (ev_ixS (i := 0) (n := 1) (Ev.s (ev_var rfl) (sq_of g)) ev_c (at_of (j := 1) rfl rfl)) ev_c rfl)) (fun _ H1 e1 => ?_) (fun _ H1 e1 => ⟨kk, cc, rfl, fun b o _ h => e1 b o h, e1 _ _ g⟩)
    have g1 := e1 _ _ g
    refine q_setLR (l := s) (xs := [.int kk, .int cc]) (j := 1) (P := fun v => ∃ c : Int, v = .int c) (fun Q' q' => (ea_cons (ev_var rfl) (ea_cons (ev_ixS (K := K) (i := 0) (n := 0) (v := .int kk) (xs := [.int kk, .int cc]) (Ev.s (ev_var rfl) (sq_of g1)) ev_c (at_of (j := 0) rfl rfl)) ea_nil)) H1 (Ex.refl _) _ fun H2 e2 => ⟨a, ns, kk, rfl, (hd.ex (e1.trans e2)).sq, fun c H3 e3 => q' _ _ (e2.trans e3) ⟨c, rfl⟩⟩) g1 (fun _ => ev_var rfl) (fun _ => ev_c) (Nat.le_of_ble_eq_true rfl) fun v H2 hv e2 => ?_
    obtain ⟨c, rfl⟩ := hv
    have u2 : (upd H2 s (.lst [V.int kk, V.int c])) s = some (.lst [V.int kk, V.int c]) := upd_same
    refine s_setL (l := s) (j := 0) (v := .int (kk + 1)) u2 (ev_I0 (ev_ixS (i := 0) (n := 0) (Ev.s (ev_var rfl) (sq_of u2)) ev_c (at_of (j := 0) rfl rfl)) ev_c) (ev_var rfl) ev_c (Nat.le_of_ble_eq_true rfl) fun H3 e3 => ⟨kk + 1, c, rfl, fun b o hb h => ?_, upd_same⟩
    rw [upd_ne hb]
    exact e3 _ _ (by rw [upd_ne hb]; exact e2 _ _ (e1 _ _ h))
  · rintro σ' H1 ⟨kk, cc, rfl, fr, g⟩
    have h0 := Int.emod_nonneg cc (show n ≠ 0 by omega)
    have h1 := Int.emod_lt_of_pos cc hn0
    obtain ⟨d, hd'⟩ : ∃ d : Nat, cc % n = (d : Int) := ⟨(cc % n).toNat, by omega⟩
    refine q_asg (v := .int (d : Int)) (Ev.is (ev_I (ev_int1 (ev_ixS (i := 0) (n := 1) (Ev.s (ev_var rfl) (sq_of g)) ev_c (at_of (j := 1) rfl rfl))) (ev_var rfl) hn0) (congrArg V.int hd')) fun H2 e2 => ?_
    refine q_setL (l := s) (j := 1) (v := .int (cc / n)) (e2 _ _ g) (ev_I (ev_ixS (i := 0) (n := 1) (Ev.s (ev_var rfl) (sq_of (e2 _ _ g))) ev_c (at_of (j := 1) rfl rfl)) (ev_var rfl) ⟨hn0, hlog⟩) (ev_var rfl) ev_c (Nat.le_of_ble_eq_true rfl) fun H3 e3 => ?_
    refine s_ret (v := .int (d : Int)) (ev_var rfl) fun H4 e4 => k d H4 (by omega) ⟨fun b o hb h => e4 _ _ (by rw [upd_ne hb]; exact e3 _ _ (e2 _ _ (fr b o hb h))), ⟨kk, cc / n, e4 _ _ upd_same⟩⟩
theorem wi_draw {s a : Addr} {ns : List Int} {σ : L2.St} {H : Hp} {tn : TE} {E : XK} {n : Int} {i j : Nat} (hd : DrS K H s a ns) (h1 : σ[i]? = some (some (.ref s))) (h2 : σ[j]? = some (some (.ref a))) (h3 : Ev tn σ H (.int n)) (h0 : 0 < n) (hn : n ≤ 2 ^ 80) :
    EvI s (tCall (sp_draw K) [] E (tCons (tVar i) (tCons (tVar j) (tCons tn tNil)))) σ H (fun z => ∃ d : Nat, z = (d : Int) ∧ (d : Int) < n) := fun Q q =>
  (ea_cons (ev_var h1) (ea_cons (ev_var h2) (ea_cons h3 ea_nil))) H (Ex.refl _) _ fun H1 e1 => ⟨s, a, ns, n, rfl, hd.ex e1, h0, hn, fun d H2 hdn f => q _ H2 ((Fr.ex hd.1 e1).trans f) ⟨d, rfl, hdn⟩⟩

theorem ok_law_wide (T : TX K mg) : FnOk P w K mg base CX0 3 T.a_law_wide T.d_law_wide ["state", "script", "size"] (sp_draw K) := by
  refine T.F_law_wide.ok sc_law_wide (fun vs H Q E h => by obtain ⟨s, a, ns, n, rfl, _⟩ := h; rfl) (fun cdv A outer s0 H vs Q E hr h => ?_)
  obtain ⟨s, a, ns, n, rfl, hd, hn0, hn, k⟩ := h
  refine ⟨_, (pss_cons (ps_set (i := 3) sc_law_wide.nd rfl (Or.inl rfl) (pe_call (ok_law_draw T) (hr.mono (by decide)) (by rfl) T.g_law_draw T.F_law_draw.kp T.b_law_draw .nil pass0 (pa_cons (pv 0) (pa_cons (pv 1) (pa_cons pe_int pa_nil)))))
      (pss_cons (ps_if (pt_cmpR op_eq (pv 3) pe_int (nomark _)) (pss_one (ps_ret pe_int)) pss_nil)
      (pss_cons (ps_if (pt_cmpR op_eq (pv 3) pe_int (nomark _)) (pss_one (ps_ret (pe_op op_sub (pv 2) pe_int))) pss_nil)
      (pss_one (ps_ret (pe_call (ok_law_draw T) (hr.mono (by decide)) (by rfl) T.g_law_draw T.F_law_draw.kp T.b_law_draw .nil pass0 (pa_cons (pv 0) (pa_cons (pv 1) (pa_cons (pv 2) pa_nil))))))))), ?_⟩
  refine qw_asg (wi_draw hd rfl rfl ev_c (by decide) (by decide)) fun z H1 f1 hz => ?_
  have hd1 := hd.fr f1
  refine q_when (et_test (ev_eq (ev_var rfl) ev_c rfl)) (fun _ H2 e2 => s_ret (v := .int ((0 : Nat) : Int)) ev_c fun H3 e3 => k 0 H3 (by omega) (f1.tex (e2.trans e3))) (fun _ H2 e2 => ?_)
  refine q_when (et_test (ev_eq (ev_var rfl) ev_c rfl)) (fun _ H3 e3 => s_ret (v := .int ((n.toNat - 1 : Nat) : Int)) (Ev.is (ev_I0 (ev_var rfl) ev_c) (congrArg V.int (by omega))) fun H4 e4 => k _ H4 (by omega) (f1.tex ((e2.trans e3).trans e4))) (fun _ H3 e3 => ?_)
  refine sw_ret (wi_draw (hd1.ex (e2.trans e3)) rfl rfl (ev_var rfl) hn0 hn) fun i H4 f4 hi => ?_
  obtain ⟨d, rfl, hdn⟩ := hi
  exact k d H4 hdn ((f1.tex (e2.trans e3)).trans f4)

def sp_junk (K : PySem.W.Frag) : Sp := fun vs H Q _ => ∃ (s a : Addr) (ns : List Int) (m : Nat), vs = [.ref s, .ref a, .int (m : Int)] ∧ DrS K H s a ns ∧ m ≤ 1000 ∧ ∀ p (ds : List Nat) H', H p = none → Fr s H H' → H' p = some (.lst ((cs ds).map V.int)) → ds.length = m → (∀ d ∈ ds, d < 256) → Q (.ref p) H'
theorem ok_law_junk (T : TX K mg) : FnOk P w K mg base CX0 3 T.a_law_junk T.d_law_junk ["state", "script", "count"] (sp_junk K) := by
  refine T.F_law_junk.ok sc_law_junk (fun vs H Q E h => by obtain ⟨s, a, ns, m, rfl, _⟩ := h; rfl) (fun cdv A outer s0 H vs Q E hr h => ?_)
  obtain ⟨s, a, ns, m, rfl, hd, hm, k⟩ := h
  refine ⟨_, (pss_one (ps_ret (pe_lc (own := [("k", 3)]) (g := gName 3) (tt := tYes) rfl sc_law_junk.nd (pi_range1 (by rfl) T.m_range (pa_cons (pv 2) pa_nil)) (blkOk_by (N := ["state", "script", "count", "k"]) (sc := defScope s_law_junk) (by decide +kernel)) (fun _ _ _ _ _ => pg_name (i := 3) sc_law_junk.nd rfl (Or.inl rfl)) (fun _ _ _ _ _ => pts_nil) (fun _ _ _ _ _ => (pe_call (ok_law_draw T) (hr.mono (by decide)) (by rfl) T.g_law_draw T.F_law_draw.kp T.b_law_draw .nil pass0 (pa_cons (pv 0) (pa_cons (pv 1) (pa_cons pe_int pa_nil)))))))), ?_⟩
  refine tlc_rngW (n := (m : Int)) (ea_cons (ev_var rfl) ea_nil) (by omega) fun H1 e1 Dl hD => ⟨fun i H' => ∃ ds : List Nat, Fr s H H' ∧ H' Dl = some (.lst ((cs ds).map V.int)) ∧ ds.length = i ∧ ∀ d ∈ ds, d < 256, ⟨[], ?_, upd_same, rfl, fun d hd => by cases hd⟩, ?_, ?_⟩
  · exact Fr.ex hd.1 (Ex.mut e1 (fresh_back e1 hD))
  · rintro i H' hi ⟨ds, f, g, hl, hb⟩
    have hi : i < m := by omega
    have hDs : Dl ≠ s := ne_st hd.1 (fresh_back e1 hD)
    refine ⟨rfl, wi_draw (hd.fr f) rfl rfl ev_c (by decide) (by decide) _ fun z H2 f2 hz => ?_⟩
    obtain ⟨d, rfl, hdn⟩ := hz
    refine ⟨(cs ds).map V.int, f2.l hDs g, sz_lt (by rw [List.length_map, cs_len]; omega), ds ++ [d], (f.trans f2).mut (fresh_back e1 hD) hDs, ?_, by rw [List.length_append, hl]; rfl, fun y hy => ?_⟩
    · rw [upd_same, cs_append, List.map_append]
      rfl
    · rcases List.mem_append.mp hy with h | h
      · exact hb y h
      · rw [List.mem_singleton.mp h]
        omega
  · rintro H' ⟨ds, f, g, hl, hb⟩
    exact k Dl ds H' (fresh_back e1 hD) f g (by omega) hb

def sp_isbytes (K : PySem.W.Frag) : Sp := fun vs H Q _ => ∃ (p : Addr) (ds : List Nat), vs = [.ref p] ∧ H p = some (.lst ((cs ds).map V.int)) ∧ ds.length ≤ 40000 ∧ (∀ d ∈ ds, d < 256) ∧ RetV (.bl true) H Q
theorem ok_law_is_bytes (T : TX K mg) : FnOk P w K mg base CX0 2 T.a_law_is_bytes T.d_law_is_bytes ["actual"] (sp_isbytes K) := by
  refine T.F_law_is_bytes.ok sc_law_is_bytes (fun vs H Q E h => by obtain ⟨p, ds, rfl, _⟩ := h; rfl) (fun cdv A outer s0 H vs Q E hr h => ?_)
  obtain ⟨p, ds, rfl, hp, hl, hb, k⟩ := h
  refine ⟨_, (pss_cons (ps_if (pt_not (pt_val (pe_callB (r := rIsi K) call_isi (by rfl) T.m_isinstance PyProof.Rows.boot_isinstance (pa_cons (pv 0) (pa_cons (pe_bltn (v := V.ty "list") (by rfl) T.m_list PyProof.Rows.boot_list rfl) pa_nil))))) (pss_one (ps_ret pe_bl)) pss_nil)
      (pss_one (ps_ret (pe_callB (r := rAll K) (cr_all rfl) (by rfl) T.m_all PyProof.Rows.boot_all (pa_cons (pe_lc (own := [("byte", 1)]) (g := gName 1) (tt := tYes) rfl sc_law_is_bytes.nd (pi_list (pv 0)) (blkOk_by (N := ["actual", "byte"]) (sc := defScope s_law_is_bytes) (by decide +kernel)) (fun _ _ _ _ _ => pg_name (i := 1) sc_law_is_bytes.nd rfl (Or.inl rfl)) (fun _ _ _ _ _ => pts_nil) (fun _ _ _ _ _ => (pe_and (pe_call (ok_law_is_integer T) (hr.mono (by decide)) (by rfl) T.g_law_is_integer T.F_law_is_integer.kp T.b_law_is_integer .nil pass0 (pa_cons (pv 1) pa_nil)) (pe_one (pe_chain op_le op_le pe_int (pv 1) pe_int))))) pa_nil))))), ?_⟩
  refine q_when (b := false) (et_is (et_not (et_B (ev_isiL (ev_var rfl) hp))) rfl) (fun h => by cases h) fun _ H1 e1 => ?_
  refine s_ret (v := .bl true) (ev_all (bs := (cs ds).map fun _ => true) (EvR.s (EvL.r (EvL.is (xs := (cs ds).map fun _ => V.bl true) (el_lcS _ (Ev.s (ev_var rfl) (sq_of (e1 _ _ hp))) (by rw [List.length_map, List.length_map]) (by rw [List.length_map, cs_len]; omega) (fun _ => rfl) fun i x H2 e2 hx => ?_) (by rw [List.map_map]; rfl)))) (by simp)) fun H2 e2 => k.go (e1.trans e2)
  obtain ⟨n, hn, hi, rfl⟩ := int_at hx
  obtain ⟨d, hd, rfl⟩ := List.mem_map.mp (List.mem_of_getElem? hn)
  have := hb d hd
  exact ⟨.bl true, by rw [List.getElem?_map, hn]; rfl, Ev.is (ev_andV (a := true) (b := true) (ev_isint (ev_var rfl)) fun _ => Ev.is (ev_chain ev_c (ev_var rfl) ev_c) (congrArg V.bl (by rw [Bool.and_eq_true, decide_eq_true_iff, decide_eq_true_iff]; omega))) rfl⟩
theorem ev_isbytes {σ : L2.St} {H : Hp} {te : TE} {E : XK} {ds : List Nat} (h : EvR te σ H ((cs ds).map V.int)) (hl : ds.length ≤ 40000) (hb : ∀ d ∈ ds, d < 256) : Ev (tCall (sp_isbytes K) [] E (tCons te tNil)) σ H (.bl true) := fun H1 e Q q =>
  h H1 e _ fun p H2 e2 hp => ⟨p, ds, rfl, hp, hl, hb, fun H3 e3 => q H3 (e2.trans e3)⟩
theorem and_mask255 (x : Nat) : Builtin.bitAnd (x : Int) 255 = ((x % 256 : Nat) : Int) := by
  have h := _root_.Bits.bitAnd_mask (x := (x : Int)) 8 (by omega)
  have e : (2 : Int) ^ 8 - 1 = 255 := rfl
  rw [e] at h
  rw [h]
  have e2 : (2 : Int) ^ 8 = 256 := rfl
  rw [e2]
  omega
def bigB (x n : Nat) : List Nat := (List.range n).map fun k => x / 2 ^ (8 * (n - 1 - k)) % 256
theorem bigB_len (x n : Nat) : (bigB x n).length = n := by unfold bigB; rw [List.length_map, List.length_range]
theorem bigB_lt (x n : Nat) : ∀ d ∈ bigB x n, d < 256 := fun d hd => by
  unfold bigB at hd
  obtain ⟨k, _, rfl⟩ := List.mem_map.mp hd
  exact Nat.mod_lt _ (by decide)
theorem p2n (j : Nat) : ((2 : Int) ^ j) = ((2 ^ j : Nat) : Int) := by rw [Int.natCast_pow]; rfl
theorem ev_byte {σ : L2.St} {H : Hp} {t1 t2 : TE} {x j : Nat} (h1 : Ev t1 σ H (.int (x : Int))) (h2 : Ev t2 σ H (.int (j : Int))) : Ev (tOp (rI0 fun i j => .int (Builtin.bitAnd i j)) (tOp (rI (fun _ j => 0 ≤ j) fun i j => .int (i / 2 ^ j.toNat)) t1 t2) (tC (.int 255))) σ H (.int ((x / 2 ^ j % 256 : Nat) : Int)) :=
  Ev.is (ev_I0 (Ev.is (ev_I h1 h2 (by omega)) (congrArg V.int (show (x : Int) / 2 ^ (j : Int).toNat = ((x / 2 ^ j : Nat) : Int) by rw [Int.toNat_natCast, p2n, Int.natCast_ediv]))) ev_c) (congrArg V.int (and_mask255 _))

def sp_numb : Sp := fun vs H Q _ => ∃ (x n : Nat), vs = [.int (x : Int), .int (n : Int)] ∧ n ≤ 1000 ∧ RetL ((cs (bigB x n)).map V.int) H Q
theorem ok_law_number_bytes (T : TX K mg) : FnOk P w K mg base CX0 1 T.a_law_number_bytes T.d_law_number_bytes ["number", "count"] sp_numb := by
  refine T.F_law_number_bytes.ok sc_law_number_bytes (fun vs H Q E h => by obtain ⟨x, n, rfl, _⟩ := h; rfl) (fun cdv A outer s0 H vs Q E hr h => ?_)
  obtain ⟨x, n, rfl, hn, k⟩ := h
  refine ⟨_, (pss_one (ps_ret (pe_lc (own := [("k", 2)]) (g := gName 2) (tt := tYes) rfl sc_law_number_bytes.nd (pi_range1 (by rfl) T.m_range (pa_cons (pv 1) pa_nil)) (blkOk_by (N := ["number", "count", "k"]) (sc := defScope s_law_number_bytes) (by decide +kernel)) (fun _ _ _ _ _ => pg_name (i := 2) sc_law_number_bytes.nd rfl (Or.inl rfl)) (fun _ _ _ _ _ => pts_nil) (fun _ _ _ _ _ => (pe_op op_and (pe_op op_shr (pv 0) (pe_op op_mul pe_int (pe_op op_sub (pe_op op_sub (pv 1) pe_int) (pv 2)))) pe_int))))), ?_⟩
  refine s_retL (el_lcR (n := (n : Int)) ((cs (bigB x n)).map V.int) (ea_cons (ev_var rfl) ea_nil) (by omega) (by rw [List.length_map, cs_len, bigB_len]; omega) (by rw [List.length_map, cs_len, bigB_len]; omega) (fun _ => rfl) fun i H1 e1 hi => ?_) k
  rw [List.length_map, cs_len, bigB_len] at hi
  exact ⟨_, at_int (cs_at (d := x / 2 ^ (8 * (n - 1 - i)) % 256) (by unfold bigB; rw [List.getElem?_map, List.getElem?_range hi]; rfl)), ev_byte (ev_var rfl) (Ev.is (ev_I ev_c (ev_I0 (ev_I0 (ev_var rfl) ev_c) (ev_var rfl)) (.inl (by decide))) (congrArg V.int (by omega)))⟩
theorem el_numb {σ : L2.St} {H : Hp} {t1 t2 : TE} {E : XK} {x n : Nat} (h1 : Ev t1 σ H (.int (x : Int))) (h2 : Ev t2 σ H (.int (n : Int))) (hn : n ≤ 1000) : EvL (tCall sp_numb [] E (tCons t1 (tCons t2 tNil))) σ H ((cs (bigB x n)).map V.int) := el_call (ea_cons h1 (ea_cons h2 ea_nil)) fun H1 _ Q q _ => ⟨x, n, rfl, hn, q⟩

theorem cs_get {ds : List Nat} {i : Nat} {x : V} (hx : ((cs ds).map V.int)[i]? = some x) : ∃ d, ds[i]? = some d ∧ i < ds.length ∧ x = V.int (d : Int) := by
  obtain ⟨n, hn, hi, rfl⟩ := int_at hx
  unfold cs at hn
  rw [List.getElem?_map] at hn
  cases e : ds[i]? with
  | none => rw [e] at hn; cases hn
  | some d =>
    rw [e] at hn
    exact ⟨d, rfl, (List.getElem?_eq_some_iff.mp e).1, by rw [← Option.some.inj hn]⟩

/-! ### new lists, draws on the way -/
def EvLW (s : Addr) (te : TE) (σ : L2.St) (H : Hp) (P : List V → Prop) : Prop := ∀ Q : VK, (∀ p xs H2, H p = none → Fr s H H2 → H2 p = some (.lst xs) → P xs → Q (.ref p) H2) → te σ H Q
section
variable {s : Addr} {σ : L2.St} {H : Hp} {ta tb te : TE} {D : Ends} {tz tu : TS} {P : List V → Prop}
theorem wl_cat {xs : List V} (st : StAt H s) (ha : EvL ta σ H xs) (hb : ∀ H1, Fr s H H1 → EvLW s tb σ H1 P) (hl : ∀ ys, P ys → xs.length + ys.length ≤ 100000) : EvLW s (tOp rCat ta tb) σ H (fun zs => ∃ ys, P ys ∧ zs = xs ++ ys) := fun Q k =>
  ha H (Ex.refl _) _ fun p H1 hp e1 g1 => hb H1 (Fr.ex st e1) _ fun r ys H2 hr f2 g2 hy => ⟨p, r, xs, ys, rfl, rfl, f2.l (ne_st st hp) g1, g2, sz_of (hl ys hy), fun l hl' => by
    have f02 : Fr s H H2 := (Fr.ex st e1).trans f2
    exact k l _ _ (f02.fresh hl') (f02.tex (Ex.new hl')) upd_same ⟨ys, hy, rfl⟩⟩
theorem qw_asgL {i : Nat} (h : EvLW s te σ H P) (k : ∀ p xs H1, H p = none → Fr s H H1 → H1 p = some (.lst xs) → P xs → tz D (σ.set i (some (.ref p))) H1) : tSeq (tAsg te (gName i)) tz D σ H := h _ k
theorem sw_asgL {i : Nat} (h : EvLW s te σ H P) (k : ∀ p xs H1, H p = none → Fr s H H1 → H1 p = some (.lst xs) → P xs → D.nx (σ.set i (some (.ref p))) H1) : tAsg te (gName i) D σ H := h _ k
/-- [e for j in range(n)], n drawn, e draws -/
theorem tlc_rngWW {te0 : TE} {vs : List Nat} {j : Nat} {Q : VK} {p : Int → Prop} (h : EvI s te0 σ H p) (hp : ∀ i, p i → 0 ≤ i ∧ i ≤ 100000)
    (k : ∀ n H1, p n → Fr s H H1 → ∀ Dl, H1 Dl = none → ∃ Pv : Nat → Hp → Prop, Pv 0 (upd H1 Dl (.lst [])) ∧ (∀ (i : Nat) H', i < n.toNat → Pv i H' → wipe ((wipe σ vs).set j (some (.int (i : Int)))) vs = wipe σ vs ∧ te ((wipe σ vs).set j (some (.int (i : Int)))) H' fun y H4 => ∃ acc, H4 Dl = some (.lst acc) ∧ acc.length < sizeLine ∧ Pv (i + 1) (upd H4 Dl (.lst (acc ++ [y])))) ∧ (∀ H', Pv n.toNat H' → Q (.ref Dl) H')) :
    tLc (iRng1 (tCons te0 tNil)) (gName j) tYes te vs σ H Q := h _ fun n H1 f1 hn => ⟨n, rfl, by have := hp n hn; omega, by have := hp n hn; omega, fun Dl hD => by
  obtain ⟨Pv, h0, hs, hd⟩ := k n H1 hn f1 Dl hD
  refine lc_range (lo := 0) (n := n.toNat) Pv h0 (fun i H' hi p => ?_) hd
  rw [Int.zero_add]
  exact hs i H' hi p⟩
end

theorem wl_junk {s a : Addr} {ns : List Int} {σ : L2.St} {H : Hp} {tn : TE} {E : XK} {i j : Nat} {p : Int → Prop} (hd : DrS K H s a ns) (h1 : σ[i]? = some (some (.ref s))) (h2 : σ[j]? = some (some (.ref a))) (h3 : EvI s tn σ H p) (hp : ∀ z, p z → 0 ≤ z ∧ z ≤ 1000) :
    EvLW s (tCall (sp_junk K) [] E (tCons (tVar i) (tCons (tVar j) (tCons tn tNil)))) σ H (fun xs => ∃ ds : List Nat, xs = (cs ds).map V.int ∧ ds.length ≤ 1000 ∧ p (ds.length : Int) ∧ ∀ d ∈ ds, d < 256) := fun Q q =>
  ⟨_, h1, ⟨_, h2, h3 _ fun n H1 f1 hn => by
    have hn2 := hp n hn
    exact ⟨s, a, ns, n.toNat, by rw [Int.toNat_of_nonneg hn2.1]; rfl, hd.fr f1, by omega, fun r ds H2 hr f2 g2 hl hb => q r _ H2 (f1.fresh hr) (f1.trans f2) g2 ⟨ds, rfl, by omega, by rw [hl, Int.toNat_of_nonneg hn2.1]; exact hn, hb⟩⟩⟩⟩
theorem sw_setLR {s : Addr} {σ : L2.St} {H : Hp} {te ta tb : TE} {l : Addr} {xs : List V} {j : Nat} {D : Ends} {P : V → Prop} (h : ∀ Q : VK, (∀ v H1, Fr s H H1 → P v → Q v H1) → te σ H Q) (hls : l ≠ s) (hl : H l = some (.lst xs)) (ho : ∀ H1, Ev ta σ H1 (.ref l)) (hi : ∀ H1, Ev tb σ H1 (.int (j : Int))) (hj : j < xs.length) (k : ∀ v H1, P v → Fr s H H1 → D.nx σ (upd H1 l (.lst (xs.set j v)))) : tAsg te (gSub ta tb rSetL) D σ H :=
  h _ fun v H1 f1 hv => ho H1 H1 (Ex.refl _) _ fun H2 e2 => hi H2 H2 (Ex.refl _) _ fun H3 e3 => ⟨l, xs, (j : Int), j, rfl, rfl, (e2.trans e3) l _ (f1.l hls hl), ixN_nat hj, k v H3 hv (f1.tex (e2.trans e3))⟩
theorem qw_setLR {s : Addr} {σ : L2.St} {H : Hp} {te ta tb : TE} {l : Addr} {xs : List V} {j : Nat} {D : Ends} {tz : TS} {P : V → Prop} (h : ∀ Q : VK, (∀ v H1, Fr s H H1 → P v → Q v H1) → te σ H Q) (hls : l ≠ s) (hl : H l = some (.lst xs)) (ho : ∀ H1, Ev ta σ H1 (.ref l)) (hi : ∀ H1, Ev tb σ H1 (.int (j : Int))) (hj : j < xs.length) (k : ∀ v H1, P v → Fr s H H1 → tz D σ (upd H1 l (.lst (xs.set j v)))) : tSeq (tAsg te (gSub ta tb rSetL)) tz D σ H := sw_setLR (D := { D with nx := tz D }) h hls hl ho hi hj k
/-- a list of mine may change -/
theorem Fr.upd {s l : Addr} {H1 : Hp} {o : HO} (h : StAt H1 s) (hl : l ≠ s) : StAt (upd H1 l o) s := by obtain ⟨k, c, g⟩ := h; exact ⟨k, c, by rw [upd_ne (Ne.symm hl)]; exact g⟩
theorem cs_inj {a b : List Nat} (h : cs a = cs b) : a = b := by
  unfold cs at h
  exact (List.map_inj_right fun x y e => Int.ofNat.inj e).mp h
theorem cs_eqd (a b : List Nat) : decide (cs a = cs b) = decide (a = b) := decide_eq_decide.mpr ⟨cs_inj, fun h => by rw [h]⟩
theorem cs_set (ds : List Nat) (i d : Nat) : (cs ds).set i (d : Int) = cs (ds.set i d) := by unfold cs; rw [List.map_set]

theorem wl_catR {s l : Addr} {σ : L2.St} {H : Hp} {ta tb : TE} {P : List V → Prop} {xs : List V} (st : StAt H s) (ha : Ev ta σ H (.ref l)) (hls : l ≠ s) (hx : H l = some (.lst xs)) (hb : ∀ H1, Fr s H H1 → EvLW s tb σ H1 P) (hl : ∀ ys, P ys → xs.length + ys.length ≤ 100000) : EvLW s (tOp rCat ta tb) σ H (fun zs => ∃ ys, P ys ∧ zs = xs ++ ys) := fun Q k =>
  ha H (Ex.refl _) _ fun H1 e1 => hb H1 (Fr.ex st e1) _ fun r ys H2 hr f2 g2 hy => ⟨l, r, xs, ys, rfl, rfl, f2.l hls (e1 _ _ hx), g2, sz_of (hl ys hy), fun q hq => by
    have f02 : Fr s H H2 := (Fr.ex st e1).trans f2
    exact k q _ _ (f02.fresh hq) (f02.tex (Ex.new hq)) upd_same ⟨ys, hy, rfl⟩⟩
theorem wl_rep {s : Addr} {σ : L2.St} {H : Hp} {ta tb : TE} {x : V} {p : Int → Prop} (st : StAt H s) (ha : EvL ta σ H [x]) (hb : ∀ H1, Fr s H H1 → EvI s tb σ H1 p) (hp : ∀ z, p z → 0 ≤ z ∧ z ≤ 1000) : EvLW s (tOp rRep ta tb) σ H (fun ys => ∃ n : Nat, p (n : Int) ∧ n ≤ 1000 ∧ ys = List.replicate n x) := fun Q k =>
  ha H (Ex.refl _) _ fun q H1 hq e1 g1 => hb H1 (Fr.ex st e1) _ fun i H2 f2 hi => ⟨q, i, [x], rfl, rfl, f2.l (ne_st st hq) g1, by have := hp i hi; omega, by have := hp i hi; omega, sz_of (by have := hp i hi; show 1 * i.toNat ≤ 100000; omega), fun l hl => by
    have h2 := hp i hi
    have f02 : Fr s H H2 := (Fr.ex st e1).trans f2
    exact k l _ _ (f02.fresh hl) (f02.tex (Ex.new hl)) upd_same ⟨i.toNat, by rw [Int.toNat_of_nonneg h2.1]; exact hi, by omega, rep_one _⟩⟩
theorem cs_rep (n x : Nat) : List.replicate n (V.int (x : Int)) = (cs (List.replicate n x)).map V.int := by
  unfold cs
  rw [List.map_replicate, List.map_replicate]
/-- xs[e], xs a list of numbers that stands there, e drawn -/
theorem wi_ixL {s : Addr} {σ : L2.St} {H : Hp} {ta tb : TE} {xs : List Nat} {q : Int → Prop} (st : StAt H s) (ha : EvL ta σ H ((cs xs).map V.int)) (hb : ∀ H1, Fr s H H1 → EvI s tb σ H1 q) (hq : ∀ z, q z → ∃ j : Nat, z = (j : Int) ∧ j < xs.length) : EvI s (tOp (rIxL K) ta tb) σ H (fun z => ∃ x : Nat, z = (x : Int) ∧ x ∈ xs) := fun Q k =>
  ha H (Ex.refl _) _ fun p H1 hp e1 g1 => hb H1 (Fr.ex st e1) _ fun i H2 f2 hi => by
    obtain ⟨j, rfl, hj⟩ := hq i hi
    have hx : xs[j]? = some xs[j] := List.getElem?_eq_getElem hj
    exact ⟨p, _, (j : Int), .int ((xs[j] : Nat) : Int), rfl, rfl, sq_of (f2.l (ne_st st hp) g1), at_of (j := j) rfl (at_int (cs_at hx)), k _ H2 ((Fr.ex st e1).trans f2) ⟨xs[j], rfl, List.mem_of_getElem? hx⟩⟩

/-! ### objects: fields, methods, making -/
section
variable {K : PySem.W.Frag} {σ : L2.St} {H : Hp} {to te tv : TE} {a C : Addr} {dx : Addr} {fs : List (Str × V)} {f m : Str} {v : V} {D : Ends} {tz : TS} {sp : Sp} {dvs vs : List V} {E : XK} {t : TA}
theorem ev_fld (c : Cls K C) (hn : NoAttr K C f) (h : Ev to σ H (.ref a)) (hx : H a = some (.ins C dx fs)) (hl : fs.lookup f = some v) : Ev (tFld K to f) σ H v := fun H1 e Q q => h H1 e _ fun H2 e2 => ⟨a, C, dx, fs, v, rfl, (e.trans e2) _ _ hx, c, hn, hl, q H2 e2⟩
theorem q_fld (c : Cls K C) (hn : NoAttr K C f) (hv : Ev tv σ H v) (h : Ev to σ H (.ref a)) (hx : H a = some (.ins C dx fs)) (hl : fs.length < 1000) (k : ∀ H1, Ex H H1 → tz D σ (upd H1 a (.ins C dx (putF f v fs)))) : tSeq (sFld K to tv f) tz D σ H :=
  hv H (Ex.refl H) _ fun H1 e1 => h H1 e1 _ fun H2 e2 => ⟨a, C, dx, fs, rfl, (e1.trans e2) _ _ hx, c, hn, hl, k H2 (e1.trans e2)⟩
theorem s_fld (c : Cls K C) (hn : NoAttr K C f) (hv : Ev tv σ H v) (h : Ev to σ H (.ref a)) (hx : H a = some (.ins C dx fs)) (hl : fs.length < 1000) (k : ∀ H1, Ex H H1 → D.nx σ (upd H1 a (.ins C dx (putF f v fs)))) : sFld K to tv f D σ H :=
  hv H (Ex.refl H) _ fun H1 e1 => h H1 e1 _ fun H2 e2 => ⟨a, C, dx, fs, rfl, (e1.trans e2) _ _ hx, c, hn, hl, k H2 (e1.trans e2)⟩
theorem q_fldL {xs : List V} (c : Cls K C) (hn : NoAttr K C f) (hv : EvL tv σ H xs) (h : ∀ H1, Ex H H1 → Ev to σ H1 (.ref a)) (hx : H a = some (.ins C dx fs)) (hl : fs.length < 1000) (k : ∀ p H1, H p = none → Ex H H1 → H1 p = some (.lst xs) → tz D σ (upd H1 a (.ins C dx (putF f (.ref p) fs)))) : tSeq (sFld K to tv f) tz D σ H :=
  hv H (Ex.refl H) _ fun p H1 hp e1 g1 => h H1 e1 H1 (Ex.refl H1) _ fun H2 e2 => ⟨a, C, dx, fs, rfl, (e1.trans e2) _ _ hx, c, hn, hl, k p H2 hp (e1.trans e2) (e2 _ _ g1)⟩
/-- o.m(..), whatever m promises -/
theorem mth (h : Ev to σ H (.ref a)) (hx : H a = some (.ins C dx fs)) (hm : fs.lookup m = none) (ha : EvA t σ H vs) {Q : VK} (k : ∀ H1, Ex H H1 → sp (.ref a :: (vs ++ dvs)) H1 Q E) : tMeth C m sp dvs E to t σ H Q :=
  h H (Ex.refl H) _ fun H1 e1 => ⟨a, dx, fs, rfl, e1 _ _ hx, hm, ha H1 e1 _ fun H2 e2 => k H2 (e1.trans e2)⟩
theorem q_dropM (h : Ev to σ H (.ref a)) (hx : H a = some (.ins C dx fs)) (hm : fs.lookup m = none) (ha : EvA t σ H vs) (k : ∀ H1, Ex H H1 → sp (.ref a :: (vs ++ dvs)) H1 (fun _ H2 => tz D σ H2) E) : tSeq (tDrop (tMeth C m sp dvs E to t)) tz D σ H := mth h hx hm ha k
theorem s_dropM (h : Ev to σ H (.ref a)) (hx : H a = some (.ins C dx fs)) (hm : fs.lookup m = none) (ha : EvA t σ H vs) (k : ∀ H1, Ex H H1 → sp (.ref a :: (vs ++ dvs)) H1 (fun _ H2 => D.nx σ H2) E) : tDrop (tMeth C m sp dvs E to t) D σ H := mth h hx hm ha k
theorem q_asgM {i : Nat} (h : Ev to σ H (.ref a)) (hx : H a = some (.ins C dx fs)) (hm : fs.lookup m = none) (ha : EvA t σ H vs) (k : ∀ H1, Ex H H1 → sp (.ref a :: (vs ++ dvs)) H1 (fun x H2 => tz D (σ.set i (some x)) H2) E) : tSeq (tAsg (tMeth C m sp dvs E to t) (gName i)) tz D σ H := mth h hx hm ha k
theorem s_retM (h : Ev to σ H (.ref a)) (hx : H a = some (.ins C dx fs)) (hm : fs.lookup m = none) (ha : EvA t σ H vs) (k : ∀ H1, Ex H H1 → sp (.ref a :: (vs ++ dvs)) H1 D.rt E) : tRet (tMeth C m sp dvs E to t) D σ H := mth h hx hm ha k
/-- a method that changes nothing and gives a value -/
theorem ev_mth (h : Ev to σ H (.ref a)) (hx : H a = some (.ins C dx fs)) (hm : fs.lookup m = none) (ha : EvA t σ H vs) (k : SpV sp (.ref a :: (vs ++ dvs)) H v) : Ev (tMeth C m sp dvs E to t) σ H v := fun H1 e Q q =>
  h H1 e _ fun H2 e2 => ⟨a, dx, fs, rfl, (e.trans e2) _ _ hx, hm, ha H2 (e.trans e2) _ fun H3 e3 => k H3 ((e.trans e2).trans e3) Q (fun H4 e4 => q H4 ((e2.trans e3).trans e4)) E⟩
end
theorem fresh_ne {H : Hp} {p q : Addr} {o : HO} (hp : H p = none) (hq : H q = some o) : q ≠ p := ne_of_none hq hp
theorem bitNot_eq (x : Int) : Builtin.bitNot x = -x - 1 := rfl
theorem bitAnd_maskZ (x : Int) (k : Nat) : Builtin.bitAnd x (2 ^ k - 1) = x % 2 ^ k := by
  by_cases h : 0 ≤ x
  · exact _root_.Bits.bitAnd_mask k h
  · have hp : (1 : Int) ≤ 2 ^ k := by
      have : 0 < 2 ^ k := Nat.two_pow_pos k
      have h2 : ((2 : Int) ^ k) = ((2 ^ k : Nat) : Int) := by rw [Int.natCast_pow]; rfl
      omega
    rw [PyProof.Rows.bitAnd_np h (by omega), Nat.and_comm]
    have h2 : ((2 : Int) ^ k) = ((2 ^ k : Nat) : Int) := by rw [Int.natCast_pow]; rfl
    have h3 : ((2 : Int) ^ k - 1).toNat = 2 ^ k - 1 := by omega
    rw [h3, Nat.and_two_pow_sub_one_eq_mod, bitNot_eq]
    have h4 : ((-x - 1).toNat : Int) = -x - 1 := by omega
    rw [h2, Int.natCast_emod, h4]
    generalize 2 ^ k = m at *
    have hm : (0 : Int) < (m : Int) := by omega
    have e1 := Int.emod_add_mul_ediv x m
    have e2 := Int.emod_add_mul_ediv (-x - 1) m
    have a1 := Int.emod_nonneg x (by omega : (m : Int) ≠ 0)
    have a2 := Int.emod_lt_of_pos x hm
    have b1 := Int.emod_nonneg (-x - 1) (by omega : (m : Int) ≠ 0)
    have b2 := Int.emod_lt_of_pos (-x - 1) hm
    generalize x % (m : Int) = r at *
    generalize (-x - 1) % (m : Int) = s at *
    generalize x / (m : Int) = p at *
    generalize (-x - 1) / (m : Int) = q at *
    -- r + s + 1 is a multiple of m between 1 and 2m - 1
    have e3 : r + s + 1 = m * (-(p + q)) := by
      rw [Int.mul_neg, Int.mul_add]
      omega
    have h5 : -(p + q) = 1 := by
      have c1 : 0 < (m : Int) * (-(p + q)) := by omega
      have c2 : (m : Int) * (-(p + q)) < m * 2 := by omega
      have c3 := Int.pos_of_mul_pos_right (a := (m : Int)) (b := -(p + q)) (by exact c1) hm
      have c4 : -(p + q) < 2 := Int.lt_of_mul_lt_mul_left c2 (by omega)
      omega
    rw [h5, Int.mul_one] at e3
    omega
theorem q_fldaugI {K : PySem.W.Frag} {σ : L2.St} {H : Hp} {to tv : TE} {a C dx : Addr} {fs : List (Str × V)} {f : Str} {i j : Int} {D : Ends} {tz : TS} (c : Cls K C) (hn : NoAttr K C f) (h : Ev to σ H (.ref a)) (hx : H a = some (.ins C dx fs)) (hl : fs.lookup f = some (.int i)) (hv : Ev tv σ H (.int j)) (hz : fs.length < 1000)
    (k : ∀ H1, Ex H H1 → tz D σ (upd H1 a (.ins C dx (putF f (.int (i + j)) fs)))) : tSeq (sFldAug K to tv rAdd f) tz D σ H :=
  h H (Ex.refl H) _ fun H1 e1 => ⟨a, C, dx, fs, .int i, rfl, e1 _ _ hx, c, hn, hl, hv H1 e1 _ fun H2 e2 => ⟨i, j, rfl, rfl, dx, fs, (e1.trans e2) _ _ hx, hz, k H2 (e1.trans e2)⟩⟩
/-- [e for j in range(n)] whose element changes objects -/
theorem tlc_rngM {ta : TA} {te : TE} {vs : List Nat} {n : Int} {j : Nat} {σ : L2.St} {H : Hp} {Q : VK} (h : EvA ta σ H [.int n]) (hn : -100000 ≤ n ∧ n ≤ 100000)
    (k : ∀ H1, Ex H H1 → ∀ Dl, H1 Dl = none → ∃ Pv : Nat → Hp → Prop, Pv 0 (upd H1 Dl (.lst [])) ∧ (∀ (i : Nat) H', i < n.toNat → Pv i H' → wipe ((wipe σ vs).set j (some (.int (i : Int)))) vs = wipe σ vs ∧ te ((wipe σ vs).set j (some (.int (i : Int)))) H' fun y H4 => ∃ acc, H4 Dl = some (.lst acc) ∧ acc.length < sizeLine ∧ Pv (i + 1) (upd H4 Dl (.lst (acc ++ [y])))) ∧ (∀ H', Pv n.toNat H' → Q (.ref Dl) H')) :
    tLc (iRng1 ta) (gName j) tYes te vs σ H Q := h H (Ex.refl H) _ fun H1 e1 => ⟨n, rfl, by omega, by omega, fun Dl hD => by
  obtain ⟨Pv, h0, hs, hd⟩ := k H1 e1 Dl hD
  refine lc_range (lo := 0) (n := n.toNat) Pv h0 (fun i H' hi p => ?_) hd
  rw [Int.zero_add]
  exact hs i H' hi p⟩

/-! ### objects that are made once -/
def FrO (a : Addr) (H H' : Hp) : Prop := ∀ b o, b ≠ a → H b = some o → H' b = some o
theorem FrO.ex {a : Addr} {H H' : Hp} (e : Ex H H') : FrO a H H' := fun b o _ h => e b o h
theorem FrO.trans {a : Addr} {H H1 H2 : Hp} (x : FrO a H H1) (y : FrO a H1 H2) : FrO a H H2 := fun b o hb h => y b o hb (x b o hb h)
theorem FrO.upd {a : Addr} {H H' : Hp} {o : HO} (f : FrO a H H') : FrO a H (upd H' a o) := fun b u hb h => by rw [upd_ne hb]; exact f b u hb h
def EvN (te : TE) (σ : L2.St) (H : Hp) (R : Addr → Hp → Prop) : Prop := ∀ H1, Ex H H1 → ∀ Q : VK, (∀ p H2, H1 p = none → Ex H1 H2 → R p H2 → Q (.ref p) H2) → te σ H1 Q
section
variable {K : PySem.W.Frag} {σ : L2.St} {H : Hp} {te ta tb : TE} {C : Addr} {sp : Sp} {dvs vs zs : List V} {E : XK} {t tk : TA} {R : Addr → Hp → Prop} {D : Ends} {tz : TS} {n m i : Nat} {gV : List V → List V → List V}
theorem en_make (h : EvA t σ H vs) (k : ∀ a dx H1 (Q : VK) (E : XK), Ex H H1 → H1 a = some (.ins C dx []) → (∀ H', FrO a H1 H' → R a H' → Q .non H') → sp (.ref a :: (vs ++ dvs)) H1 Q E) : EvN (tMake C sp dvs E t) σ H R := fun H1 e Q q =>
  h H1 e _ fun H2 e2 => fun x dx hx hdx hne => k x dx _ _ _ ((e.trans e2).trans (Ex.mut (Ex.new hdx) hx)) upd_same fun H' hF hR => ⟨rfl, q x H' (fresh_back e2 hx) (fun b o hb => hF b o (fresh_ne hx (e2 b o hb)) ((Ex.mut (Ex.new hdx) hx) b o (e2 b o hb))) hR⟩
theorem en_makeK (h : EvA t σ H vs) (hz : EvA tk σ H zs) (l1 : vs.length = n) (l2 : zs.length = m) (k : ∀ a dx H1 (Q : VK) (E : XK), Ex H H1 → H1 a = some (.ins C dx []) → (∀ H', FrO a H1 H' → R a H' → Q .non H') → sp (gV (.ref a :: vs) zs) H1 Q E) : EvN (tMakeK C n m sp gV E t tk) σ H R := fun H1 e Q q =>
  h H1 e _ fun H2 e2 => hz H2 (e.trans e2) _ fun H3 e3 => ⟨l1, l2, fun x dx hx hdx hne => k x dx _ _ _ (((e.trans e2).trans e3).trans (Ex.mut (Ex.new hdx) hx)) upd_same fun H' hF hR => ⟨rfl, q x H' (fresh_back (e2.trans e3) hx) (fun b o hb => hF b o (fresh_ne hx ((e2.trans e3) b o hb)) ((Ex.mut (Ex.new hdx) hx) b o ((e2.trans e3) b o hb))) hR⟩⟩
theorem en_makeF (h : EvA t σ H vs) (k : ∀ a dx H1 (Q : VK) (E : XK), Ex H H1 → H a = none → H1 a = some (.ins C dx []) → (∀ H', FrO a H1 H' → R a H' → Q .non H') → sp (.ref a :: (vs ++ dvs)) H1 Q E) : EvN (tMake C sp dvs E t) σ H R := fun H1 e Q q =>
  h H1 e _ fun H2 e2 => fun x dx hx hdx hne => k x dx _ _ _ ((e.trans e2).trans (Ex.mut (Ex.new hdx) hx)) (fresh_back (e.trans e2) hx) upd_same fun H' hF hR => ⟨rfl, q x H' (fresh_back e2 hx) (fun b o hb => hF b o (fresh_ne hx (e2 b o hb)) ((Ex.mut (Ex.new hdx) hx) b o (e2 b o hb))) hR⟩
theorem en_makeKF (h : EvA t σ H vs) (hz : EvA tk σ H zs) (l1 : vs.length = n) (l2 : zs.length = m) (k : ∀ a dx H1 (Q : VK) (E : XK), Ex H H1 → H a = none → H1 a = some (.ins C dx []) → (∀ H', FrO a H1 H' → R a H' → Q .non H') → sp (gV (.ref a :: vs) zs) H1 Q E) : EvN (tMakeK C n m sp gV E t tk) σ H R := fun H1 e Q q =>
  h H1 e _ fun H2 e2 => hz H2 (e.trans e2) _ fun H3 e3 => ⟨l1, l2, fun x dx hx hdx hne => k x dx _ _ _ (((e.trans e2).trans e3).trans (Ex.mut (Ex.new hdx) hx)) (fresh_back ((e.trans e2).trans e3) hx) upd_same fun H' hF hR => ⟨rfl, q x H' (fresh_back (e2.trans e3) hx) (fun b o hb => hF b o (fresh_ne hx ((e2.trans e3) b o hb)) ((Ex.mut (Ex.new hdx) hx) b o ((e2.trans e3) b o hb))) hR⟩⟩
/-- what stood before the object was made stands -/
theorem FrO.after {a : Addr} {H0 G H' : Hp} (f : FrO a G H') (e : Ex H0 G) (hn : H0 a = none) : Ex H0 H' := fun b o hb => f b o (by rintro rfl; rw [hn] at hb; cases hb) (e b o hb)
theorem q_asgN (h : EvN te σ H R) (k : ∀ p H1, H p = none → Ex H H1 → R p H1 → tz D (σ.set i (some (.ref p))) H1) : tSeq (tAsg te (gName i)) tz D σ H := h H (Ex.refl H) _ k
theorem s_asgN (h : EvN te σ H R) (k : ∀ p H1, H p = none → Ex H H1 → R p H1 → D.nx (σ.set i (some (.ref p))) H1) : tAsg te (gName i) D σ H := h H (Ex.refl H) _ k
theorem s_retN (h : EvN te σ H R) (k : ∀ p H1, H p = none → Ex H H1 → R p H1 → D.rt (.ref p) H1) : tRet te D σ H := h H (Ex.refl H) _ k
theorem el_if {c : TT} {b : Bool} {xs : List V} (h : EvT c σ H b) (h1 : b = true → EvL ta σ H xs) (h2 : b = false → EvL tb σ H xs) : EvL (tIf c ta tb) σ H xs := fun H1 e Q q => h H1 e _ fun H2 e2 => by
  cases b with
  | true =>
    rw [if_pos rfl]
    exact h1 rfl H2 (e.trans e2) Q fun p H3 hp e3 g => q p H3 (fresh_back e2 hp) (e2.trans e3) g
  | false =>
    rw [if_neg (by decide)]
    exact h2 rfl H2 (e.trans e2) Q fun p H3 hp e3 g => q p H3 (fresh_back e2 hp) (e2.trans e3) g
theorem s_fldL {a dx : Addr} {fs : List (Str × V)} {f : Str} {to tv : TE} {xs : List V} (c : Cls K C) (hn : NoAttr K C f) (hv : EvL tv σ H xs) (h : ∀ H1, Ex H H1 → Ev to σ H1 (.ref a)) (hx : H a = some (.ins C dx fs)) (hl : fs.length < 1000) (k : ∀ p H1, H p = none → Ex H H1 → H1 p = some (.lst xs) → D.nx σ (upd H1 a (.ins C dx (putF f (.ref p) fs)))) : sFld K to tv f D σ H :=
  hv H (Ex.refl H) _ fun p H1 hp e1 g1 => h H1 e1 H1 (Ex.refl H1) _ fun H2 e2 => ⟨a, C, dx, fs, rfl, (e1.trans e2) _ _ hx, c, hn, hl, k p H2 hp (e1.trans e2) (e2 _ _ g1)⟩
end

/-! ### arguments some of which are new objects -/
def EvAP (t : TA) (σ : L2.St) (H : Hp) (R : List V → Hp → Prop) : Prop := ∀ H1, Ex H H1 → ∀ Q : List V → Hp → Prop, (∀ vs H2, Ex H1 H2 → R vs H2 → Q vs H2) → t σ H1 Q
section
variable {K : PySem.W.Frag} {σ : L2.St} {H : Hp} {te : TE} {tr t : TA} {x : V} {xs : List V} {R : List V → Hp → Prop} {C : Addr} {sp : Sp} {dvs : List V} {E : XK} {S : Addr → Hp → Prop} {D : Ends} {tz : TS} {i : Nat}
theorem ap_nil : EvAP tNil σ H fun vs _ => vs = [] := fun H1 _ _ q => q [] H1 (Ex.refl H1) rfl
theorem ap_ev (h : Ev te σ H x) (hr : EvAP tr σ H R) : EvAP (tCons te tr) σ H fun vs G => ∃ r, vs = x :: r ∧ R r G := fun H1 e Q q =>
  h H1 e _ fun H2 e2 => hr H2 (e.trans e2) _ fun vs H3 e3 hR => q (x :: vs) H3 (e2.trans e3) ⟨vs, rfl, hR⟩
theorem ap_l (h : EvL te σ H xs) (hr : EvAP tr σ H R) : EvAP (tCons te tr) σ H fun vs G => ∃ p r, vs = .ref p :: r ∧ H p = none ∧ G p = some (.lst xs) ∧ R r G := fun H1 e Q q =>
  h H1 e _ fun p H2 hp e2 g => hr H2 (e.trans e2) _ fun vs H3 e3 hR => q (.ref p :: vs) H3 (e2.trans e3) ⟨p, vs, rfl, fresh_back e hp, e3 _ _ g, hR⟩
theorem ap_u (h : EvU te σ H xs) (hr : EvAP tr σ H R) : EvAP (tCons te tr) σ H fun vs G => ∃ p r, vs = .ref p :: r ∧ H p = none ∧ G p = some (.tup xs) ∧ R r G := fun H1 e Q q =>
  h H1 e _ fun p H2 hp e2 g => hr H2 (e.trans e2) _ fun vs H3 e3 hR => q (.ref p :: vs) H3 (e2.trans e3) ⟨p, vs, rfl, fresh_back e hp, e3 _ _ g, hR⟩
theorem en_makeAP (h : EvAP t σ H R) (k : ∀ vs a dx H1 (Q : VK) (E : XK), Ex H H1 → (∃ G, Ex G H1 ∧ R vs G) → H1 a = some (.ins C dx []) → (∀ H', FrO a H1 H' → S a H' → Q .non H') → sp (.ref a :: (vs ++ dvs)) H1 Q E) : EvN (tMake C sp dvs E t) σ H S := fun H1 e Q q =>
  h H1 e _ fun vs H2 e2 hR => fun x dx hx hdx hne => k vs x dx _ _ _ ((e.trans e2).trans (Ex.mut (Ex.new hdx) hx)) ⟨H2, Ex.mut (Ex.new hdx) hx, hR⟩ upd_same fun H' hF hS => ⟨rfl, q x H' (fresh_back e2 hx) (fun b o hb => hF b o (fresh_ne hx (e2 b o hb)) ((Ex.mut (Ex.new hdx) hx) b o (e2 b o hb))) hS⟩
theorem q_asgAP (h : EvAP t σ H R) (k : ∀ vs H1, Ex H H1 → R vs H1 → sp (vs ++ dvs) H1 (fun x H2 => tz D (σ.set i (some x)) H2) E) : tSeq (tAsg (tCall sp dvs E t) (gName i)) tz D σ H := h H (Ex.refl H) _ fun vs H1 e hR => k vs H1 e hR
theorem s_retAP (h : EvAP t σ H R) (k : ∀ vs H1, Ex H H1 → R vs H1 → sp (vs ++ dvs) H1 D.rt E) : tRet (tCall sp dvs E t) D σ H := h H (Ex.refl H) _ fun vs H1 e hR => k vs H1 e hR
end

/-! ### values of which something is told -/
def EvX (te : TE) (σ : L2.St) (H : Hp) (S : V → Hp → Prop) : Prop := ∀ H1, Ex H H1 → ∀ Q : VK, (∀ v H2, Ex H1 H2 → S v H2 → Q v H2) → te σ H1 Q
def Up (S : V → Hp → Prop) : Prop := ∀ v H H', Ex H H' → S v H → S v H'
section
variable {K : PySem.W.Frag} {σ : L2.St} {H : Hp} {te ta tb : TE} {tr t : TA} {R : List V → Hp → Prop} {C : Addr} {sp : Sp} {dvs : List V} {E : XK} {S S' S2 : V → Hp → Prop} {D : Ends} {tz : TS} {i : Nat}
theorem Ev.x {v : V} (h : Ev te σ H v) (hS : ∀ H1, Ex H H1 → S v H1) : EvX te σ H S := fun H1 e Q q => h H1 e _ fun H2 e2 => q v H2 e2 (hS H2 (e.trans e2))
theorem EvN.x {R' : Addr → Hp → Prop} (h : EvN te σ H R') (hS : ∀ p H1, Ex H H1 → R' p H1 → S (.ref p) H1) : EvX te σ H S := fun H1 e Q q => h H1 e _ fun p H2 _ e2 hR => q (.ref p) H2 e2 (hS p H2 (e.trans e2) hR)
theorem ex_call1 (h : EvX te σ H S) (k : ∀ v H1 (Q : VK) (E : XK), Ex H H1 → S v H1 → (∀ v' H2, Ex H1 H2 → S' v' H2 → Q v' H2) → sp ([v] ++ dvs) H1 Q E) : EvX (tCall sp dvs E (tCons te tNil)) σ H S' := fun H1 e Q q =>
  h H1 e _ fun v H2 e2 hS => k v H2 _ _ (e.trans e2) hS fun v' H3 e3 hS' => q v' H3 (e2.trans e3) hS'
theorem ex_call2 (h : EvX ta σ H S) (hu : Up S) (h2 : EvX tb σ H S2) (k : ∀ v w H1 (Q : VK) (E : XK), Ex H H1 → S v H1 → S2 w H1 → (∀ v' H2, Ex H1 H2 → S' v' H2 → Q v' H2) → sp ([v, w] ++ dvs) H1 Q E) : EvX (tCall sp dvs E (tCons ta (tCons tb tNil))) σ H S' := fun H1 e Q q =>
  h H1 e _ fun v H2 e2 hS => h2 H2 (e.trans e2) _ fun w H3 e3 hS2 => k v w H3 _ _ ((e.trans e2).trans e3) (hu _ _ _ e3 hS) hS2 fun v' H4 e4 hS' => q v' H4 ((e2.trans e3).trans e4) hS'
theorem EvX.val {v : V} (h : EvX te σ H fun x _ => x = v) : Ev te σ H v := fun H1 e Q q => h H1 e _ fun x H2 e2 hx => by rw [hx]; exact q H2 e2
theorem q_asgX (h : EvX te σ H S) (k : ∀ v H1, Ex H H1 → S v H1 → tz D (σ.set i (some v)) H1) : tSeq (tAsg te (gName i)) tz D σ H := h H (Ex.refl H) _ fun v H1 e hS => k v H1 e hS
theorem ap_x (h : EvX te σ H S) (hu : Up S) (hr : EvAP tr σ H R) : EvAP (tCons te tr) σ H fun vs G => ∃ v r, vs = v :: r ∧ S v G ∧ R r G := fun H1 e Q q =>
  h H1 e _ fun v H2 e2 hS => hr H2 (e.trans e2) _ fun vs H3 e3 hR => q (v :: vs) H3 (e2.trans e3) ⟨v, vs, rfl, hu _ _ _ e3 hS, hR⟩
theorem s_retAPL (h : EvAP t σ H R) (hl : ∀ vs G, R vs G → vs.length ≤ 100000) (k : ∀ p vs H1 H2, H p = none → Ex H H1 → R vs H1 → Ex H1 H2 → H2 p = some (.lst vs) → D.rt (.ref p) H2) : tRet (tLst t) D σ H := h H (Ex.refl H) _ fun vs H1 e hR => ⟨sz_of (hl vs H1 hR), fun p hp => k p vs H1 _ (fresh_back e hp) e hR (Ex.new hp) upd_same⟩
theorem ev_eqX {K : PySem.W.Frag} {b : Bool} (ha : EvX ta σ H S) (hu : Up S) (hb : EvX tb σ H S2) (h : ∀ x y G, Ex H G → S x G → S2 y G → ∃ a dx fs t, x = .ref a ∧ G a = some (.ins C dx fs) ∧ TyX K G y t ∧ PySem.W.notFirst K C t = true ∧ SpV sp [.ref a, y] G (.bl b)) : Ev (tOp (rEqO C sp E K) ta tb) σ H (.bl b) := fun H1 e Q q =>
  ha H1 e _ fun x H2 e2 hS => hb H2 (e.trans e2) _ fun y H3 e3 hS2 => by
    obtain ⟨a, dx, fs, t, rfl, h1, h2, h3, h4⟩ := h x y H3 ((e.trans e2).trans e3) (hu _ _ _ e3 hS) hS2
    exact ⟨a, dx, fs, t, rfl, h1, h2, h3, h4 H3 (Ex.refl _) _ (fun H4 e4 => ⟨⟨b, rfl⟩, q H4 ((e2.trans e3).trans e4)⟩) E⟩
theorem ev_eqDv {d d' : PyData} (h1 : EvD K ta σ H d) (h2 : EvD K tb σ H d') (hs : SeqAt.shaped d = true) (hs' : SeqAt.shaped d' = true) : Ev (tOp (rEqD K) ta tb) σ H (.bl (PyData.eqv d d')) := fun H1 e Q q => h1 H1 e _ fun v H2 e2 hv => h2 H2 (e.trans e2) _ fun u H3 e3 hu =>
  ⟨d, d', dp_ex e3 d v hv, hu, hs, hs', q H3 (e2.trans e3)⟩
theorem ev_neDv {d d' : PyData} (h1 : EvD K ta σ H d) (h2 : EvD K tb σ H d') (hs : SeqAt.shaped d = true) (hs' : SeqAt.shaped d' = true) : Ev (tOp (rNeD K) ta tb) σ H (.bl (!PyData.eqv d d')) := fun H1 e Q q => h1 H1 e _ fun v H2 e2 hv => h2 H2 (e.trans e2) _ fun u H3 e3 hu =>
  ⟨d, d', dp_ex e3 d v hv, hu, hs, hs', q H3 (e2.trans e3)⟩
end

def bits8 (b : Nat) : List Bool := (List.range 8).map fun k => b.testBit (7 - k)
/-! ### fields of bits -/
def bitsN (n v : Nat) : List Bool := (List.range n).map fun k => v.testBit (n - 1 - k)
theorem bitsN_len (n v : Nat) : (bitsN n v).length = n := by unfold bitsN; rw [List.length_map, List.length_range]
theorem bitsN_at {n v i : Nat} (h : i < n) : (bitsN n v)[i]? = some (v.testBit (n - 1 - i)) := by
  unfold bitsN
  rw [List.getElem?_map, List.getElem?_range h]
  rfl
theorem bitsN_congr {n v u : Nat} (h : ∀ i, i < n → v.testBit i = u.testBit i) : bitsN n v = bitsN n u := by
  unfold bitsN
  exact List.map_congr_left fun k hk => h _ (by have := List.mem_range.mp hk; omega)
theorem bitsN_mod (n v : Nat) : bitsN n (v % 2 ^ n) = bitsN n v := bitsN_congr fun i hi => by rw [Nat.testBit_mod_two_pow, decide_eq_true hi, Bool.true_and]
theorem bitsN_add (n w x : Nat) : bitsN (n + w) x = bitsN n (x / 2 ^ w) ++ bitsN w x := by
  refine List.ext_getElem? fun i => ?_
  by_cases h : i < n
  · rw [List.getElem?_append_left (by rw [bitsN_len]; exact h), bitsN_at h, bitsN_at (by omega), Nat.testBit_div_two_pow, show n - 1 - i + w = n + w - 1 - i by omega]
  · rw [List.getElem?_append_right (by rw [bitsN_len]; omega), bitsN_len]
    by_cases h2 : i - n < w
    · rw [bitsN_at h2, bitsN_at (by omega), show w - 1 - (i - n) = n + w - 1 - i by omega]
    · rw [List.getElem?_eq_none (by rw [bitsN_len]; omega), List.getElem?_eq_none (by rw [bitsN_len]; omega)]
theorem bitsN_cat {n w h v : Nat} (hv : v < 2 ^ w) : bitsN (n + w) (h * 2 ^ w + v) = bitsN n h ++ bitsN w v := by
  rw [bitsN_add]
  congr 1
  · rw [Nat.add_comm, Nat.add_mul_div_right _ _ (Nat.two_pow_pos w), Nat.div_eq_of_lt hv, Nat.zero_add]
  · rw [← bitsN_mod, Nat.add_comm, Nat.add_mul_mod_self_right, bitsN_mod]
theorem bits8_N (b : Nat) : bits8 b = bitsN 8 b := rfl
theorem bitsN_zero (n : Nat) : bitsN n 0 = List.replicate n false := by
  unfold bitsN
  refine List.ext_getElem? fun i => ?_
  rw [List.getElem?_map]
  by_cases h : i < n
  · rw [List.getElem?_range h, List.getElem?_replicate, if_pos h]
    show some (Nat.testBit 0 _) = _
    rw [Nat.zero_testBit]
  · rw [List.getElem?_eq_none (by rw [List.length_range]; omega), List.getElem?_eq_none (by rw [List.length_replicate]; omega)]
    rfl
theorem bits_flat_len (ws : List Nat) : (ws.flatMap bits8).length = 8 * ws.length := by
  induction ws with
  | nil => rfl
  | cons d r ih =>
    rw [List.flatMap_cons, List.length_append, ih, List.length_cons]
    show 8 + _ = _
    omega

/-! ### lists of bits, as numbers -/
def b2 (b : Bool) : Int := if b then 1 else 0
theorem b2_bit (n i : Nat) : Builtin.bitAnd ((n : Int) / 2 ^ i) 1 = b2 (n.testBit i) := by
  have h1 : ((n : Int) / 2 ^ i) = ((n / 2 ^ i : Nat) : Int) := by
    rw [Int.natCast_ediv, Int.natCast_pow]
    rfl
  rw [h1, PyProof.Rows.bitAnd_m1, Nat.testBit_eq_decide_div_mod_eq]
  unfold b2
  by_cases h : n / 2 ^ i % 2 = 1
  · rw [decide_eq_true h, if_pos rfl]
    omega
  · rw [decide_eq_false h, if_neg (by decide)]
    omega
def bI (ms : List Bool) : List Int := ms.map b2
theorem bI_len (ms : List Bool) : (bI ms).length = ms.length := List.length_map ..
theorem bI_append (ms ns : List Bool) : bI (ms ++ ns) = bI ms ++ bI ns := List.map_append ..
theorem bI_at {ms : List Bool} {i : Nat} {b : Bool} (h : ms[i]? = some b) : (bI ms)[i]? = some (b2 b) := by unfold bI; rw [List.getElem?_map, h]; rfl
theorem bI_false (n : Nat) : bI (List.replicate n false) = List.replicate n 0 := by unfold bI; rw [List.map_replicate]; rfl
theorem ev_bit {σ : L2.St} {H : Hp} {t1 t2 : TE} {n i : Nat} {j : Int} (h1 : Ev t1 σ H (.int (n : Int))) (h2 : Ev t2 σ H (.int j)) (hj : j = (i : Int)) : Ev (tOp (rI0 fun i j => .int (Builtin.bitAnd i j)) (tOp (rI (fun _ j => 0 ≤ j) fun i j => .int (i / 2 ^ j.toNat)) t1 t2) (tC (.int 1))) σ H (.int (b2 (n.testBit i))) := by
  subst hj
  exact Ev.is (ev_I0 (ev_I h1 h2 (by show (0 : Int) ≤ _; omega)) ev_c) (congrArg V.int (by rw [Int.toNat_natCast]; exact b2_bit n i))
def valL (ms : List Bool) : Nat := ms.foldl (fun a b => 2 * a + b.toNat) 0
theorem valL_snoc (ms : List Bool) (b : Bool) : valL (ms ++ [b]) = 2 * valL ms + b.toNat := by unfold valL; rw [List.foldl_append]; rfl
theorem valL_8 : ∀ d, d < 256 → valL (bits8 d) = d := by decide +kernel
def padN (n : Nat) : Nat := (8 - n % 8) % 8
theorem b2_nat (b : Bool) : b2 b = (b.toNat : Int) := by cases b <;> rfl

theorem pow_cast (k : Nat) : ((2 : Int) ^ k) = ((2 ^ k : Nat) : Int) := by rw [Int.natCast_pow]; rfl
/-! ### BitReader -/
theorem flat_drop : ∀ (ds : List Nat) (a : Nat), (ds.flatMap bits8).drop (8 * a) = (ds.drop a).flatMap bits8
  | [], a => by rw [List.flatMap_nil, List.drop_nil, List.drop_nil, List.flatMap_nil]
  | d :: r, 0 => rfl
  | d :: r, a + 1 => by
    rw [List.flatMap_cons, show 8 * (a + 1) = (bits8 d).length + 8 * a by show _ = 8 + 8 * a; omega, List.drop_append, List.drop_of_length_le (by omega), List.nil_append, show (bits8 d).length + 8 * a - (bits8 d).length = 8 * a by omega]
    exact flat_drop r a
theorem flat_take : ∀ (ds : List Nat) (m : Nat), (ds.flatMap bits8).take (8 * m) = (ds.take m).flatMap bits8
  | [], m => by rw [List.flatMap_nil, List.take_nil, List.take_nil, List.flatMap_nil]
  | d :: r, 0 => rfl
  | d :: r, m + 1 => by
    rw [List.flatMap_cons, show 8 * (m + 1) = (bits8 d).length + 8 * m by show _ = 8 + 8 * m; omega, List.take_append, List.take_of_length_le (by omega), show (bits8 d).length + 8 * m - (bits8 d).length = 8 * m by omega, flat_take r m]
    rfl
def numB (bs : List Nat) : Nat := bs.foldl (fun a b => a * 2 ^ 8 + b) 0
theorem numB_snoc (bs : List Nat) (b : Nat) : numB (bs ++ [b]) = numB bs * 2 ^ 8 + b := by unfold numB; rw [List.foldl_append]; rfl
theorem numB_bits (bs : List Nat) (h : ∀ b ∈ bs, b < 256) : ∀ k, k ≤ bs.length → bitsN (8 * k) (numB (bs.take k)) = (bs.take k).flatMap bits8 ∧ numB (bs.take k) < 2 ^ (8 * k)
  | 0, _ => ⟨rfl, by rw [List.take_zero]; decide⟩
  | k + 1, hk => by
    obtain ⟨h1, h2⟩ := numB_bits bs h k (by omega)
    have hb : bs[k]? = some bs[k] := List.getElem?_eq_getElem (by omega)
    have hlt : bs[k] < 2 ^ 8 := h _ (List.getElem_mem (by omega))
    rw [show bs.take (k + 1) = bs.take k ++ [bs[k]] from by rw [List.take_add_one, hb]; rfl, numB_snoc, show 8 * (k + 1) = 8 * k + 8 by omega, bitsN_cat hlt, h1, List.flatMap_append, List.flatMap_cons, List.flatMap_nil, List.append_nil]
    refine ⟨rfl, ?_⟩
    rw [Nat.pow_add]
    have : (numB (bs.take k) + 1) * 2 ^ 8 ≤ 2 ^ (8 * k) * 2 ^ 8 := Nat.mul_le_mul_right _ h2
    rw [Nat.add_mul, Nat.one_mul] at this
    omega
theorem valL_bitsN : ∀ (w v : Nat), valL (bitsN w v) = v % 2 ^ w
  | 0, v => by rw [Nat.pow_zero, Nat.mod_one]; rfl
  | w + 1, v => by
    rw [bitsN_add w 1 v]
    show valL (bitsN w (v / 2 ^ 1) ++ [v.testBit 0]) = _
    have e : v % 2 ^ (w + 1) = v % 2 + 2 * (v / 2 % 2 ^ w) := by rw [Nat.pow_succ, Nat.mul_comm, Nat.mod_mul]
    rw [valL_snoc, valL_bitsN w (v / 2 ^ 1), Nat.pow_one, e, Nat.testBit_zero]
    have := Nat.mod_two_eq_zero_or_one v
    rcases this with h | h
    · rw [h]
      show _ + 0 = _
      omega
    · rw [h]
      show _ + 1 = _
      omega
theorem slice_bits {ds : List Nat} (hd : ∀ d ∈ ds, d < 256) {pos w : Nat} (h : pos + w ≤ 8 * ds.length) : valL (((ds.flatMap bits8).drop pos).take w) = numB ((ds.drop (pos / 8)).take ((pos + w + 7) / 8 - pos / 8)) / 2 ^ (8 * ((pos + w + 7) / 8) - (pos + w)) % 2 ^ w := by
  generalize hm : (pos + w + 7) / 8 - pos / 8 = m
  generalize hk : 8 * ((pos + w + 7) / 8) - (pos + w) = k
  have hsl : ((ds.drop (pos / 8)).take m).length = m := by rw [List.length_take, List.length_drop]; omega
  have hb := (numB_bits ((ds.drop (pos / 8)).take m) (fun b hb => hd b (List.mem_of_mem_drop (List.mem_of_mem_take hb))) m (by omega)).1
  rw [List.take_of_length_le (by omega)] at hb
  rw [← flat_take, ← flat_drop] at hb
  generalize numB ((ds.drop (pos / 8)).take m) = x at *
  have h8 : 8 * m = pos % 8 + (w + k) := by omega
  have hdrop : ((ds.flatMap bits8).drop pos).take w = ((((ds.flatMap bits8).drop (8 * (pos / 8))).take (8 * m)).drop (pos % 8)).take w := by
    rw [List.drop_take, List.take_take, List.drop_drop, show 8 * (pos / 8) + pos % 8 = pos by omega, Nat.min_eq_left (by omega)]
  rw [hdrop, ← hb, h8, bitsN_add, bitsN_add, List.drop_left' (bitsN_len _ _), List.take_left' (bitsN_len _ _), valL_bitsN]
def rF (d : Addr) (pos : Nat) : List (Str × V) := [("_data", .ref d), ("_position", .int (pos : Int))]
def RdAt (C : Addr) (H : Hp) (a d : Addr) (pos : Nat) : Prop := ∃ dx, H a = some (.ins C dx (rF d pos))
def FrA (a : Addr) (H H' : Hp) : Prop := ∀ b o, b ≠ a → H b = some o → H' b = some o
theorem FrA.ex {a : Addr} {H H1 : Hp} (h : Ex H H1) : FrA a H H1 := fun b o _ e => h b o e
theorem FrA.trans {a : Addr} {H H1 H2 : Hp} (h : FrA a H H1) (g : FrA a H1 H2) : FrA a H H2 := fun b o n e => g b o n (h b o n e)
theorem FrA.upd {a : Addr} {H H1 : Hp} {o : HO} (h : FrA a H H1) : FrA a H (upd H1 a o) := fun b p n e => by rw [upd_ne n]; exact h b p n e
theorem RdAt.ex {C a d : Addr} {H H1 : Hp} {pos : Nat} (e : Ex H H1) (h : RdAt C H a d pos) : RdAt C H1 a d pos := by
  obtain ⟨dx, h⟩ := h
  exact ⟨dx, e _ _ h⟩
theorem RdAt.ne {C a d : Addr} {H : Hp} {pos : Nat} {p : Addr} {xs : List V} (h : RdAt C H a d pos) (hp : H p = some (.lst xs)) : p ≠ a := by
  obtain ⟨dx, h⟩ := h
  intro e
  rw [e, h] at hp
  cases hp
def sp_rinit (C : Addr) : Sp := fun vs H Q _ => ∃ (a dx d : Addr) (at_ : Nat), vs = [.ref a, .ref d, .int (at_ : Int)] ∧ H a = some (.ins C dx []) ∧ at_ ≤ 1000000 ∧ ∀ H', FrA a H H' → RdAt C H' a d (8 * at_) → Q .non H'
theorem ok_BitReader_init (T : TX K mg) : FnOk P w K mg base CX0 1 T.a_BitReader_init T.d_BitReader_init ["self", "data", "at"] (sp_rinit T.C_BitReader) := by
  refine T.F_BitReader_init.ok sc_BitReader_init (fun vs H Q E h => by obtain ⟨a, dx, d, t, rfl, _⟩ := h; rfl) (fun cdv A outer s H vs Q E hr h => ?_)
  obtain ⟨a, dx, d, t, rfl, ha, ht, k⟩ := h
  refine ⟨_, PSs.nox (pss_cons (ps_fld (pv 0) (pv 1) rfl)
      (pss_one (ps_fld (pv 0) (pe_op op_mul (pv 2) pe_int) rfl))), ?_⟩
  refine q_fld T.cl_BitReader T.n_BitReader_data (v := .ref d) (ev_var rfl) (ev_var rfl) ha (by decide) fun H1 e1 => ?_
  refine s_fld T.cl_BitReader T.n_BitReader_position (v := .int ((8 * t : Nat) : Int)) (Ev.is (ev_I (ev_var rfl) ev_c (.inr (by decide))) (congrArg V.int (by omega))) (ev_var rfl) upd_same (Nat.le_of_ble_eq_true rfl) fun H2 e2 => ?_
  exact k _ ((FrA.ex e1).upd.trans (FrA.ex e2)).upd ⟨dx, upd_same⟩

def sp_place (C : Addr) (f : Nat → Int) : Sp := fun vs H Q _ => ∃ (a d : Addr) (pos : Nat), vs = [.ref a] ∧ RdAt C H a d pos ∧ RetV (.int (f pos)) H Q
theorem ok_BitReader_byte_place (T : TX K mg) : FnOk P w K mg base CX0 1 T.a_BitReader_byte_place T.d_BitReader_byte_place ["self"] (sp_place T.C_BitReader fun pos => (pos / 8 : Nat)) := by
  refine T.F_BitReader_byte_place.ok sc_BitReader_byte_place (fun vs H Q E h => by obtain ⟨a, d, pos, rfl, _⟩ := h; rfl) (fun cdv A outer s H vs Q E hr h => ?_)
  obtain ⟨a, d, pos, rfl, ⟨dx, ha⟩, k⟩ := h
  refine ⟨_, (pss_one (ps_ret (pe_op op_fdiv (pe_fld (pv 0) rfl) pe_int))), ?_⟩
  exact s_ret (Ev.is (ev_I (ev_fld T.cl_BitReader T.n_BitReader_position (v := .int (pos : Int)) (ev_var rfl) ha rfl) ev_c ⟨by decide, by decide⟩) (congrArg V.int (by show _ = ((pos / 8 : Nat) : Int); omega))) fun H1 e1 => k H1 e1
theorem ev_place {σ : L2.St} {H : Hp} {to : TE} {E : XK} {C a d : Addr} {pos : Nat} {m : Str} {f : Nat → Int} (h : Ev to σ H (.ref a)) (hR : RdAt C H a d pos) (hm : (rF d pos).lookup m = none) : Ev (tMeth C m (sp_place C f) [] E to tNil) σ H (.int (f pos)) := by
  obtain ⟨dx, ha⟩ := id hR
  exact ev_mth h ha hm ea_nil fun H1 e Q q _ => ⟨a, d, pos, rfl, hR.ex e, q⟩

def RdErr (E : XK) (C : Addr) (nm : Str) (n : Nat) (H : Hp) : Prop := ∀ H' dd, Ex H H' → ErrD H' dd nm (n : Int) → E (.ref C) (some dd) H'
def sp_readX (C CT : Addr) : Sp := fun vs H Q E => ∃ (a d : Addr) (ds : List Nat) (pos wd : Nat), vs = [.ref a, .int (wd : Int)] ∧ RdAt C H a d pos ∧ H d = some (.lst ((cs ds).map V.int)) ∧ (∀ b ∈ ds, b < 256) ∧ wd ≤ 64 ∧ ds.length ≤ 100000 ∧
  (pos + wd ≤ 8 * ds.length → ∀ H', FrA a H H' → RdAt C H' a d (pos + wd) → Q (.int ((valL (((ds.flatMap bits8).drop pos).take wd) : Nat) : Int)) H') ∧ (8 * ds.length < pos + wd → RdErr E CT "Truncated" ds.length H)
theorem q_forSr {σ : L2.St} {H : Hp} {D : Ends} {tu tz : TS} {tl : TE} {g : TG} {xs : List V} (h : EvS K tl σ H xs) (k : ∀ p H1, Ex H H1 → SqL K H1 p xs → tSeq (tFor (iList K (tC (.ref p))) g tu) tz D σ H1) : tSeq (tFor (iList K tl) g tu) tz D σ H := h H (Ex.refl H) _ fun p H1 e hp => k p H1 e hp
theorem ok_BitReader_read (T : TX K mg) : FnOk P w K mg base (L2N.CX P w) 3 T.a_BitReader_read T.d_BitReader_read ["self", "width"] (sp_readX T.C_BitReader T.C_Truncated) := by
  refine T.F_BitReader_read.okN sc_BitReader_read (fun vs H Q E h => by obtain ⟨a, d, ds, pos, wd, rfl, _⟩ := h; rfl) (fun cdv A outer s H vs Q E hr h => ?_)
  obtain ⟨a, d, ds, pos, wd, rfl, ⟨dx, ha⟩, hd, hds, hw, hlen, k, kE⟩ := h
  refine ⟨_, (pss_cons (ps_set (i := 2) sc_BitReader_read.nd rfl (Or.inl rfl) (pe_fld (pv 0) rfl))
      (pss_cons (ps_set (i := 3) sc_BitReader_read.nd rfl (Or.inl rfl) (pe_fld (pv 0) rfl))
      (pss_cons (ps_set (i := 4) sc_BitReader_read.nd rfl (Or.inl rfl) (pe_op op_add (pv 3) (pv 1)))
      (pss_cons (ps_if (pt_cmpR op_gt (pv 4) (pe_op op_mul (pe_callB (r := rLenS K) call_len_seq (by rfl) T.m_len PySem.boot_len (pa_cons (pv 2) pa_nil)) pe_int) (nomark _)) (pss_one (L2N.ps_raise rfl (L2N.takes_of rfl rfl rfl rfl) (pmkN_oex T.x_Truncated.ox T.x_Truncated.iC T.ti_MonochordError_init (ok_MonochordError_init T) (hr.mono (by decide)) T.b_MonochordError_init .nil pass0 (by rfl) T.g_Truncated (pa_cons (pe_callB (r := rLenS K) call_len_seq (by rfl) T.m_len PySem.boot_len (pa_cons (pv 2) pa_nil)) pa_nil)))) pss_nil)
      (pss_cons (ps_set (i := 5) sc_BitReader_read.nd rfl (Or.inl rfl) (pe_op op_fdiv (pe_op op_add (pv 4) pe_int) pe_int))
      (pss_cons (ps_set (i := 6) sc_BitReader_read.nd rfl (Or.inl rfl) pe_int)
      (pss_cons (ps_for (passes_of rfl) rfl (pi_list (pe_slice (r := rSlL K) sl_list (pv 2) (po_some (pe_op op_fdiv (pv 3) pe_int)) (po_some (pv 5)))) (pg_name (i := 7) sc_BitReader_read.nd rfl (Or.inl rfl)) (pss_one (ps_set (i := 6) sc_BitReader_read.nd rfl (Or.inl rfl) (pe_op op_or (pe_op op_shl (pv 6) pe_int) (pv 7)))))
      (pss_cons (ps_fld (pv 0) (pv 4) rfl)
      (pss_one (ps_ret (pe_op op_and (pe_op op_shr (pv 6) (pe_op op_sub (pe_op op_mul (pv 5) pe_int) (pv 4))) (pe_op op_sub (pe_op op_shl pe_int (pv 1)) pe_int)))))))))))), ?_⟩
  refine q_asg (ev_fld T.cl_BitReader T.n_BitReader_data (v := .ref d) (ev_var rfl) ha rfl) fun H1 e1 => ?_
  refine q_asg (ev_fld T.cl_BitReader T.n_BitReader_position (v := .int (pos : Int)) (ev_var rfl) (e1 _ _ ha) rfl) fun H2 e2 => ?_
  refine q_asg (v := .int ((pos + wd : Nat) : Int)) (Ev.is (ev_I0 (ev_var rfl) (ev_var rfl)) (congrArg V.int (by omega))) fun H3 e3 => ?_
  have ex3 := (e1.trans e2).trans e3
  have hlv : ∀ {H1 : Hp}, Ex H H1 → Ev (tCB (rLenS K) (tCons (tVar 2) tNil)) [some (.ref a), some (.int (wd : Int)), some (.ref d), some (.int (pos : Int)), some (.int ((pos + wd : Nat) : Int)), none, none, none] H1 (.int (ds.length : Int)) := fun e => Ev.is (ev_lenS (Ev.s (ev_var rfl) (sq_of (e _ _ hd)))) (by rw [List.length_map, cs_len])
  refine q_when (b := decide (8 * ds.length < pos + wd)) (et_test (Ev.is (ev_I0 (ev_var rfl) (ev_I (hlv ex3) ev_c (.inr (by decide)))) (congrArg V.bl (decide_eq_decide.mpr (by show (_ : Int) < _ ↔ _; omega))))) (fun hb H4 e4 => ?_) (fun hb H4 e4 => ?_)
  · exact mk_err T.x_Truncated (ea_cons (hlv (ex3.trans e4)) ea_nil) fun H5 dd hdd e5 he => kE (of_decide_eq_true hb) H5 dd ((ex3.trans e4).trans e5) he
  have hp : pos + wd ≤ 8 * ds.length := by have := of_decide_eq_false hb; omega
  have k := k hp
  refine q_asg (v := .int (((pos + wd + 7) / 8 : Nat) : Int)) (Ev.is (ev_I (ev_I0 (ev_var rfl) ev_c) ev_c ⟨by decide, by decide⟩) (congrArg V.int (by omega))) fun H5 e5 => ?_
  walk_at "asg"
  intro H6 e6
  have ex6 := ((ex3.trans e4).trans e5).trans e6
  have hsb := slice_bits hds hp
  generalize hbs : (ds.drop (pos / 8)).take ((pos + wd + 7) / 8 - pos / 8) = bs at *
  have hbl : bs.length ≤ 9 := by rw [← hbs, List.length_take]; omega
  have hb256 : ∀ b ∈ bs, b < 256 := fun b hb => hds b (by rw [← hbs] at hb; exact List.mem_of_mem_drop (List.mem_of_mem_take hb))
  refine q_forSr (xs := (cs bs).map V.int) (EvR.s (EvL.r (EvL.is (el_mid (ns := cs ds) (i := pos / 8) (j := (pos + wd + 7) / 8) (Ev.s (ev_var rfl) (sq_of (ex6 _ _ hd))) (Ev.is (ev_I (ev_var rfl) ev_c ⟨by decide, by decide⟩) (congrArg V.int (by omega))) (ev_var rfl)) (by rw [cs_drop, cs_take, hbs])))) fun p H7 e7 hq => ?_
  refine q_forLn (a := p) ev_c hq (fun i σ' H' => ∃ c, σ' = [some (.ref a), some (.int (wd : Int)), some (.ref d), some (.int (pos : Int)), some (.int ((pos + wd : Nat) : Int)), some (.int (((pos + wd + 7) / 8 : Nat) : Int)), some (.int ((numB (bs.take i) : Nat) : Int)), c] ∧ Ex H7 H')
    (fun H8 e8 => ⟨none, rfl, e8⟩) (fun i σ' H' _ h => by obtain ⟨_, _, e⟩ := h; exact ex_l e hq) ?_ ?_
  · rintro i x σ' H8 hx ⟨c, rfl, e8⟩
    obtain ⟨n, hn, hi, rfl⟩ := int_at hx
    rw [cs_len] at hi
    have hbi : bs[i]? = some bs[i] := List.getElem?_eq_getElem hi
    have hn2 := cs_at hbi
    rw [hn] at hn2
    have hn2 := Option.some.inj hn2
    have hlt : bs[i] < 256 := hb256 _ (List.getElem_mem hi)
    have hx64 := (numB_bits bs hb256 i (by omega)).2
    rw [show bs.take (i + 1) = bs.take i ++ [bs[i]] from by rw [List.take_add_one, hbi]; rfl, numB_snoc]
    generalize bs[i] = b at *
    subst hn2
    have hx64 : numB (bs.take i) < 2 ^ 64 := Nat.lt_of_lt_of_le hx64 (Nat.pow_le_pow_right (by decide) (by omega))
    generalize numB (bs.take i) = x at *
    refine s_asg (Ev.is (ev_I0 (ev_I (ev_var rfl) ev_c (show CPow (x : Int) 8 from ⟨by decide, by decide, by rw [Int.natAbs_natCast]; exact hx64⟩)) (ev_var rfl)) (congrArg V.int (a₂ := ((x * 2 ^ 8 + b : Nat) : Int)) ?_)) fun H9 e9 => ⟨_, rfl, e8.trans e9⟩
    show Builtin.bitOr ((x : Int) * 2 ^ 8) (b : Int) = _
    rw [_root_.Bits.bitOr_join' (by omega) (by show (b : Int) < 256; omega) (by omega)]
    show (b : Int) + (x : Int) * 256 = ((x * 256 + b : Nat) : Int)
    omega
  · rintro σ' H8 ⟨c, rfl, e8⟩
    rw [List.length_map, cs_len, List.take_length]
    have ex8 := (ex6.trans e7).trans e8
    refine q_fld T.cl_BitReader T.n_BitReader_position (v := .int ((pos + wd : Nat) : Int)) (ev_var rfl) (ev_var rfl) (ex8 _ _ ha) (Nat.le_of_ble_eq_true rfl) fun H9 e9 => ?_
    refine s_ret (v := .int ((valL (((ds.flatMap bits8).drop pos).take wd) : Nat) : Int)) (Ev.is (ev_I0 (ev_I (j := ((8 * ((pos + wd + 7) / 8) - (pos + wd) : Nat) : Int)) (ev_var rfl) (Ev.is (ev_I0 (ev_I (ev_var rfl) ev_c (.inr (by decide))) (ev_var rfl)) (congrArg V.int (by omega))) (by show (0 : Int) ≤ _; omega)) (ev_I0 (ev_I ev_c (ev_var rfl) (show CPow 1 (wd : Int) from ⟨by omega, by omega, by decide⟩)) ev_c)) (congrArg V.int ?_)) fun H10 e10 => ?_
    · rw [Int.toNat_natCast, Int.toNat_natCast, Int.one_mul, bitAnd_maskZ, pow_cast, pow_cast, hsb, Int.natCast_emod, Int.natCast_ediv]
    · exact k H10 (((FrA.ex ex8).trans (FrA.ex e9)).upd.trans (FrA.ex e10)) (RdAt.ex e10 ⟨dx, upd_same⟩)

def sp_alig (C : Addr) : Sp := fun vs H Q _ => ∃ (a d : Addr) (pos : Nat), vs = [.ref a] ∧ RdAt C H a d pos ∧ RetV (.bl (decide (pos % 8 = 0))) H Q
/-- o.m() of a reader, nothing changed -/
theorem ok_BitReader_aligned (T : TX K mg) : FnOk P w K mg base CX0 1 T.a_BitReader_aligned T.d_BitReader_aligned ["self"] (sp_alig T.C_BitReader) := by
  refine T.F_BitReader_aligned.ok sc_BitReader_aligned (fun vs H Q E h => by obtain ⟨a, d, pos, rfl, _⟩ := h; rfl) (fun cdv A outer s H vs Q E hr h => ?_)
  obtain ⟨a, d, pos, rfl, ⟨dx, ha⟩, k⟩ := h
  refine ⟨_, (pss_one (ps_ret (pe_cmpR op_eq (pe_op op_mod (pe_fld (pv 0) rfl) pe_int) pe_int (nomark _)))), ?_⟩
  exact s_ret (v := .bl (decide (pos % 8 = 0))) (Ev.is (ev_eq (ev_I (ev_fld T.cl_BitReader T.n_BitReader_position (v := .int (pos : Int)) (ev_var rfl) ha rfl) ev_c (by decide)) ev_c rfl) (congrArg V.bl (decide_eq_decide.mpr ⟨fun h => by have := V.int.inj h; omega, fun h => congrArg V.int (by omega)⟩))) fun H1 e1 => k H1 e1
theorem ev_aligned {σ : L2.St} {H : Hp} {to : TE} {E : XK} {C a d : Addr} {pos : Nat} (h : Ev to σ H (.ref a)) (hR : RdAt C H a d pos) : Ev (tMeth C "aligned" (sp_alig C) [] E to tNil) σ H (.bl (decide (pos % 8 = 0))) := by
  obtain ⟨dx, ha⟩ := id hR
  exact ev_mth h ha rfl ea_nil fun H1 e Q q _ => ⟨a, d, pos, rfl, hR.ex e, q⟩

def bytesAt (ds : List Nat) (pos n : Nat) : List Nat := (List.range n).map fun i => valL (((ds.flatMap bits8).drop (pos + 8 * i)).take 8)
theorem bytesAt_len (ds : List Nat) (pos n : Nat) : (bytesAt ds pos n).length = n := by unfold bytesAt; rw [List.length_map, List.length_range]
theorem bytesAt_get {ds : List Nat} {pos n i : Nat} (h : i < n) : (bytesAt ds pos n)[i]? = some (valL (((ds.flatMap bits8).drop (pos + 8 * i)).take 8)) := by
  unfold bytesAt
  rw [List.getElem?_map, List.getElem?_range h]
  rfl
theorem valL_byte {ds : List Nat} (hd : ∀ d ∈ ds, d < 256) {i : Nat} (h : i < ds.length) : valL (((ds.flatMap bits8).drop (8 * i)).take 8) = ds[i] := by
  rw [flat_drop, show (8 : Nat) = 8 * 1 from rfl, flat_take, List.drop_eq_getElem_cons h, List.take_succ_cons, List.take_zero, List.flatMap_cons, List.flatMap_nil, List.append_nil]
  exact valL_8 _ (hd _ (List.getElem_mem h))
theorem bytesAt_al {ds : List Nat} (hd : ∀ d ∈ ds, d < 256) {p n : Nat} (h : p + n ≤ ds.length) : bytesAt ds (8 * p) n = (ds.drop p).take n := by
  refine List.ext_getElem? fun i => ?_
  by_cases hi : i < n
  · rw [bytesAt_get hi, List.getElem?_take, if_pos hi, List.getElem?_drop, List.getElem?_eq_getElem (by omega), ← Nat.mul_add, valL_byte hd (by omega)]
  · rw [List.getElem?_eq_none (by rw [bytesAt_len]; omega), List.getElem?_eq_none (by rw [List.length_take]; omega)]
def sp_readB (C CT : Addr) : Sp := fun vs H Q E => ∃ (a d : Addr) (ds : List Nat) (pos n : Nat), vs = [.ref a, .int (n : Int)] ∧ RdAt C H a d pos ∧ H d = some (.lst ((cs ds).map V.int)) ∧ (∀ b ∈ ds, b < 256) ∧ ds.length ≤ 40000 ∧ n ≤ 100000 ∧
  (pos + 8 * n ≤ 8 * ds.length → ∀ p H', H p = none → FrA a H H' → RdAt C H' a d (pos + 8 * n) → H' p = some (.lst ((cs (bytesAt ds pos n)).map V.int)) → Q (.ref p) H') ∧ (8 * ds.length < pos + 8 * n → RdErr E CT "Truncated" ds.length H)
theorem ok_BitReader_read_bytes (T : TX K mg) : FnOk P w K mg base (L2N.CX P w) 4 T.a_BitReader_read_bytes T.d_BitReader_read_bytes ["self", "count"] (sp_readB T.C_BitReader T.C_Truncated) := by
  refine T.F_BitReader_read_bytes.okN sc_BitReader_read_bytes (fun vs H Q E h => by obtain ⟨a, d, ds, pos, n, rfl, _⟩ := h; rfl) (fun cdv A outer s H vs Q E hr h => ?_)
  obtain ⟨a, d, ds, pos, n, rfl, hR, hd, hds, hlen, hn, k, kE⟩ := h
  obtain ⟨dx, ha⟩ := id hR
  refine ⟨_, (pss_cons (ps_set (i := 2) sc_BitReader_read_bytes.nd rfl (Or.inl rfl) (pe_fld (pv 0) rfl))
      (pss_cons (ps_if (pt_cmpR op_gt (pe_op op_add (pe_fld (pv 0) rfl) (pe_op op_mul (pv 1) pe_int)) (pe_op op_mul (pe_callB (r := rLenS K) call_len_seq (by rfl) T.m_len PySem.boot_len (pa_cons (pv 2) pa_nil)) pe_int) (nomark _)) (pss_one (L2N.ps_raise rfl (L2N.takes_of rfl rfl rfl rfl) (pmkN_oex T.x_Truncated.ox T.x_Truncated.iC T.ti_MonochordError_init (ok_MonochordError_init T) (hr.mono (by decide)) T.b_MonochordError_init .nil pass0 (by rfl) T.g_Truncated (pa_cons (pe_callB (r := rLenS K) call_len_seq (by rfl) T.m_len PySem.boot_len (pa_cons (pv 2) pa_nil)) pa_nil)))) pss_nil)
      (pss_cons (ps_if (pt_not (pt_val (pe_meth0 (pv 0) T.cl_BitReader T.me_BitReader_aligned (ok_BitReader_aligned T) (hr.mono (by decide)) T.b_BitReader_aligned .nil pass0))) (pss_one (ps_ret (pe_lc (own := [("_", 4)]) (g := gName 4) (tt := tYes) rfl sc_BitReader_read_bytes.nd (pi_range1 (by rfl) T.m_range (pa_cons (pv 1) pa_nil)) (blkOk_by (N := ["self", "count", "data", "place", "_"]) (sc := defScope s_BitReader_read_bytes) (by decide +kernel)) (fun _ _ _ _ _ => pg_name (i := 4) sc_BitReader_read_bytes.nd rfl (Or.inl rfl)) (fun _ _ _ _ _ => pts_nil) (fun _ _ _ _ _ => (pe_meth (pv 0) T.cl_BitReader T.me_BitReader_read (ok_BitReader_read T) (hr.mono (by decide)) T.b_BitReader_read .nil passN (pa_cons pe_int pa_nil)))))) pss_nil)
      (pss_cons (ps_set (i := 3) sc_BitReader_read_bytes.nd rfl (Or.inl rfl) (pe_meth0 (pv 0) T.cl_BitReader T.me_BitReader_byte_place (ok_BitReader_byte_place T) (hr.mono (by decide)) T.b_BitReader_byte_place .nil pass0))
      (pss_cons (ps_fldaug (pv 0) (pe_op op_mul (pv 1) pe_int) in_add)
      (pss_one (ps_ret (pe_slice (r := rSlL K) sl_list (pv 2) (po_some (pv 3)) (po_some (pe_op op_add (pv 3) (pv 1))))))))))), ?_⟩
  refine q_asg (ev_fld T.cl_BitReader T.n_BitReader_data (v := .ref d) (ev_var rfl) ha rfl) fun H1 e1 => ?_
  have hlv : ∀ {σ : L2.St} {H1 : Hp} {te : TE}, Ex H H1 → Ev te σ H1 (.ref d) → Ev (tCB (rLenS K) (tCons te tNil)) σ H1 (.int (ds.length : Int)) := fun e h => Ev.is (ev_lenS (Ev.s h (sq_of (e _ _ hd)))) (by rw [List.length_map, cs_len])
  refine q_when (b := decide (8 * ds.length < pos + 8 * n)) (et_test (Ev.is (ev_I0 (ev_I0 (ev_fld T.cl_BitReader T.n_BitReader_position (v := .int (pos : Int)) (ev_var rfl) (e1 _ _ ha) rfl) (ev_I (ev_var rfl) ev_c (.inr (by decide)))) (ev_I (hlv e1 (ev_var rfl)) ev_c (.inr (by decide)))) (congrArg V.bl (decide_eq_decide.mpr (by show (_ : Int) < _ ↔ _; omega))))) (fun hb H2 e2 => ?_) (fun hb H2 e2 => ?_)
  · have hb := of_decide_eq_true hb
    exact mk_err T.x_Truncated (ea_cons (hlv (e1.trans e2) (ev_var rfl)) ea_nil) fun H8 dd hdd e8 he => kE hb H8 dd ((e1.trans e2).trans e8) he
  have hb : pos + 8 * n ≤ 8 * ds.length := by have := of_decide_eq_false hb; omega
  have k := k hb
  have ex2 := e1.trans e2
  refine q_when (b := !decide (pos % 8 = 0)) (et_not (et_B (ev_aligned (ev_var rfl) (hR.ex ex2)))) (fun hc H3 e3 => ?_) (fun hc H3 e3 => ?_)
  · have ex3 := ex2.trans e3
    refine tlc_rngM (n := (n : Int)) (ea_cons (ev_var rfl) ea_nil) (by omega) fun H4 e4 D hD => ⟨fun i H' => FrA a H H' ∧ RdAt T.C_BitReader H' a d (pos + 8 * i) ∧ H' D = some (.lst ((cs (bytesAt ds pos i)).map V.int)), ?_, fun i H' hi h => ?_, fun H' h => ?_⟩
    · refine ⟨(FrA.ex (ex3.trans e4)).trans (FrA.ex (Ex.new hD)), (hR.ex (ex3.trans e4)).ex (Ex.new hD), upd_same⟩
    · obtain ⟨hF, hR', hDl⟩ := h
      obtain ⟨dx', ha'⟩ := id hR'
      have hD0 : H D = none := by cases h : H D with | none => rfl | some o => rw [(ex3.trans e4) _ _ h] at hD; cases hD
      have hdd : H' d = some (.lst ((cs ds).map V.int)) := hF _ _ (hR.ne hd) hd
      refine ⟨rfl, mth (sp := sp_readX T.C_BitReader T.C_Truncated) (m := "read") (dvs := []) (vs := [.int 8]) (ev_var rfl) ha' rfl (ea_cons ev_c ea_nil) fun H6 e6 => ⟨a, d, ds, pos + 8 * i, 8, rfl, hR'.ex e6, e6 _ _ hdd, hds, by decide, by omega, fun _ H7 hF7 hR7 => ?_, fun hlt => by omega⟩⟩
      have hDa : D ≠ a := hR'.ne hDl
      have hD7 := hF7 _ _ hDa (e6 _ _ hDl)
      refine ⟨_, hD7, by rw [List.length_map, cs_len, bytesAt_len]; exact sz_lt (by omega), ?_, ?_, ?_⟩
      · exact fun b o hb ho => by
          rw [upd_ne (fun z => by rw [z, hD0] at ho; cases ho)]
          exact hF7 _ _ hb (e6 _ _ (hF _ _ hb ho))
      · obtain ⟨dx7, h7⟩ := hR7
        exact ⟨dx7, by rw [upd_ne hDa.symm]; exact h7⟩
      · rw [upd_same]
        unfold bytesAt
        rw [List.range_succ, List.map_append, cs_append, List.map_append]
        rfl
    · obtain ⟨hF, hR', hDl⟩ := h
      have hD0 : H D = none := by cases h : H D with | none => rfl | some o => rw [(ex3.trans e4) _ _ h] at hD; cases hD
      exact k D H' hD0 hF hR' hDl
  · have hc : pos % 8 = 0 := by simpa using hc
    have ex3 := ex2.trans e3
    refine q_asg (v := .int ((pos / 8 : Nat) : Int)) (ev_place (f := fun pos => (pos / 8 : Nat)) (ev_var rfl) (hR.ex ex3) rfl) fun H4 e4 => ?_
    have ex4 := ex3.trans e4
    refine q_fldaugI T.cl_BitReader T.n_BitReader_position (ev_var rfl) (ex4 _ _ ha) rfl (Ev.is (ev_I (ev_var rfl) ev_c (.inr (by decide))) (congrArg V.int (a₂ := ((8 * n : Nat) : Int)) (by omega))) (Nat.le_of_ble_eq_true rfl) fun H5 e5 => ?_
    rw [show (pos : Int) + ((8 * n : Nat) : Int) = ((pos + 8 * n : Nat) : Int) by omega]
    have hR6 : RdAt T.C_BitReader (upd H5 a (.ins T.C_BitReader dx (rF d (pos + 8 * n)))) a d (pos + 8 * n) := ⟨dx, upd_same⟩
    have hF6 : FrA a H (upd H5 a (.ins T.C_BitReader dx (rF d (pos + 8 * n)))) := (FrA.ex (ex4.trans e5)).upd
    have hd6 := hF6 _ _ (hR.ne hd) hd
    refine s_retL (xs := (cs (bytesAt ds pos n)).map V.int) (EvL.is (el_mid (ns := cs ds) (i := pos / 8) (j := pos / 8 + n) (Ev.s (ev_var rfl) (sq_of hd6)) (ev_var rfl) (Ev.is (ev_I0 (ev_var rfl) (ev_var rfl)) (congrArg V.int (by omega)))) (by
      rw [cs_drop, cs_take, show pos / 8 + n - pos / 8 = n by omega, ← bytesAt_al hds (by omega), show 8 * (pos / 8) = pos by omega])) fun p H7 hp e7 g7 => ?_
    exact k p H7 (by cases h : H p with | none => rfl | some o => by_cases hpa : p = a; (· rw [hpa, upd_same] at hp; cases hp); (· exact absurd ((hF6 _ _ hpa h).symm.trans hp) (fun z => by cases z))) (hF6.trans (FrA.ex e7)) (hR6.ex e7) g7

theorem q_mk_r0 {C : Addr} {E : XK} {σ : L2.St} {H : Hp} {D : Ends} {tz : TS} {i : Nat} {t1 : TE} {xs : List V} (h1 : EvL t1 σ H xs) (k : ∀ a d H', H a = none → a ≠ d → H d = none → Ex H H' → H' d = some (.lst xs) → RdAt C H' a d 0 → tz D (σ.set i (some (.ref a))) H') : tSeq (tAsg (tMake C (sp_rinit C) [.int 0] E (tCons t1 tNil)) (gName i)) tz D σ H :=
  h1 H (Ex.refl H) _ fun d H1 hd e1 g1 => fun x dx hx hdx hne => by
    have hxd : d ≠ x := fresh_ne hx g1
    have hex : ∀ b o, H1 b = some o → upd (upd H1 dx (HO.own x)) x (HO.ins C dx []) b = some o := fun b o hb => by
      rw [upd_ne (fresh_ne hx hb), upd_ne (fresh_ne hdx hb)]
      exact hb
    refine ⟨x, dx, d, 0, rfl, upd_same, by decide, fun H' hF hR => ⟨rfl, k x d H' ?_ hxd.symm hd (fun b o hb => hF b o (fresh_ne hx (e1 _ _ hb)) (hex b o (e1 _ _ hb))) (hF d _ hxd (hex d _ g1)) hR⟩⟩
    cases h : H x with
    | none => rfl
    | some o => rw [e1 _ _ h] at hx; cases hx

/-! ### bits of bytes by their places -/
theorem flat_at : ∀ (ds : List Nat) (i : Nat), i < 8 * ds.length → (ds.flatMap bits8)[i]? = some ((ds.getD (i / 8) 0).testBit (7 - i % 8))
  | [], i, h => by rw [List.length_nil] at h; omega
  | d :: r, i, h => by
    rw [List.length_cons] at h
    rw [List.flatMap_cons]
    by_cases hi : i < 8
    · rw [List.getElem?_append_left (by show i < 8; exact hi), bits8_N, bitsN_at hi, show i / 8 = 0 by omega, show i % 8 = i by omega]
      rfl
    · rw [List.getElem?_append_right (by show 8 ≤ i; omega)]
      show (r.flatMap bits8)[i - 8]? = _
      rw [flat_at r (i - 8) (by omega), show i / 8 = (i - 8) / 8 + 1 by omega, show i % 8 = (i - 8) % 8 by omega]
      rfl
theorem valL_next {bs : List Bool} {at_ i : Nat} {b : Bool} (h : bs[at_ + i]? = some b) : valL ((bs.drop at_).take (i + 1)) = 2 * valL ((bs.drop at_).take i) + b.toNat := by
  rw [List.take_add_one, List.getElem?_drop, h]
  exact valL_snoc _ _
theorem valL_rest {ds : List Nat} (hd : ∀ d ∈ ds, d < 256) {pos : Nat} (h : pos / 8 < ds.length) : valL (((ds.flatMap bits8).drop pos).take (8 - pos % 8)) = ds.getD (pos / 8) 0 % 2 ^ (8 - pos % 8) := by
  have e1 : (pos + (8 - pos % 8) + 7) / 8 - pos / 8 = 1 := by omega
  have e2 : 8 * ((pos + (8 - pos % 8) + 7) / 8) - (pos + (8 - pos % 8)) = 0 := by omega
  rw [slice_bits hd (by omega), e1, e2, List.drop_eq_getElem_cons h, List.take_succ_cons, List.take_zero, Nat.pow_zero, Nat.div_one]
  have e3 : ds.getD (pos / 8) 0 = ds[pos / 8] := by rw [List.getD_eq_getElem?_getD, List.getElem?_eq_getElem h]; rfl
  rw [e3]
  show (0 * 2 ^ 8 + ds[pos / 8]) % _ = _
  rw [Nat.zero_mul, Nat.zero_add]

/-! ### BitWriter -/
def wF (L : Addr) (h n : Nat) : List (Str × V) := [("_whole", .ref L), ("_held", .int (h : Int)), ("_held_bits", .int (n : Int))]
def WrAt (C : Addr) (H : Hp) (a L : Addr) (ms : List Bool) : Prop := ∃ (dx : Addr) (ws : List Nat) (h n : Nat), H a = some (.ins C dx (wF L h n)) ∧ H L = some (.lst ((cs ws).map V.int)) ∧ n < 8 ∧ h < 2 ^ n ∧ (∀ b ∈ ws, b < 256) ∧ ws.flatMap bits8 ++ bitsN n h = ms
def FrW (a L : Addr) (H H' : Hp) : Prop := ∀ b o, b ≠ a → b ≠ L → H b = some o → H' b = some o
theorem FrW.trans {a L : Addr} {H H1 H2 : Hp} (h : FrW a L H H1) (g : FrW a L H1 H2) : FrW a L H H2 := fun b o n1 n2 e => g b o n1 n2 (h b o n1 n2 e)
theorem FrW.ex {a L : Addr} {H H1 : Hp} (h : Ex H H1) : FrW a L H H1 := fun b o _ _ e => h b o e
theorem FrW.upd1 {a L : Addr} {H H1 : Hp} {o : HO} (h : FrW a L H H1) : FrW a L H (upd H1 a o) := fun b p n1 n2 e => by rw [upd_ne n1]; exact h b p n1 n2 e
theorem FrW.upd2 {a L : Addr} {H H1 : Hp} {o : HO} (h : FrW a L H H1) : FrW a L H (upd H1 L o) := fun b p n1 n2 e => by rw [upd_ne n2]; exact h b p n1 n2 e
theorem WrAt.ex {C a L : Addr} {H H1 : Hp} {ms : List Bool} (e : Ex H H1) (h : WrAt C H a L ms) : WrAt C H1 a L ms := by
  obtain ⟨dx, ws, hd, n, h1, h2, h3⟩ := h
  exact ⟨dx, ws, hd, n, e _ _ h1, e _ _ h2, h3⟩
theorem WrAt.ne {C a L : Addr} {H : Hp} {ms : List Bool} (h : WrAt C H a L ms) : a ≠ L := by
  obtain ⟨dx, ws, hd, n, h1, h2, h3⟩ := h
  intro e
  rw [e, h2] at h1
  cases h1
theorem WrAt.len {C a L : Addr} {H : Hp} {ms : List Bool} (h : WrAt C H a L ms) : ∃ dx ws hd n, H a = some (.ins C dx (wF L hd n)) ∧ H L = some (.lst ((cs ws).map V.int)) ∧ n < 8 ∧ hd < 2 ^ n ∧ (∀ b ∈ ws, b < 256) ∧ ws.flatMap bits8 ++ bitsN n hd = ms ∧ ms.length = 8 * ws.length + n := by
  obtain ⟨dx, ws, hd, n, h1, h2, h3, h4, h5, h6⟩ := h
  exact ⟨dx, ws, hd, n, h1, h2, h3, h4, h5, h6, by rw [← h6, List.length_append, bits_flat_len, bitsN_len]⟩
def sp_winit (C : Addr) : Sp := fun vs H Q _ => ∃ a dx, vs = [.ref a] ∧ H a = some (.ins C dx []) ∧ ∀ L H', H L = none → (∀ b o, b ≠ a → H b = some o → H' b = some o) → WrAt C H' a L [] → Q .non H'
theorem ok_BitWriter_init (T : TX K mg) : FnOk P w K mg base CX0 1 T.a_BitWriter_init T.d_BitWriter_init ["self"] (sp_winit T.C_BitWriter) := by
  refine T.F_BitWriter_init.ok sc_BitWriter_init (fun vs H Q E h => by obtain ⟨a, dx, rfl, _⟩ := h; rfl) (fun cdv A outer s H vs Q E hr h => ?_)
  obtain ⟨a, dx, rfl, ha, k⟩ := h
  refine ⟨_, (pss_cons (ps_fld (pv 0) (pe_lst pa_nil) rfl)
      (pss_cons (ps_fld (pv 0) pe_int rfl)
      (pss_one (ps_fld (pv 0) pe_int rfl)))), ?_⟩
  refine q_fldL (xs := []) T.cl_BitWriter T.n_BitWriter_whole (el_lst ea_nil (by decide)) (fun _ _ => ev_var rfl) ha (by decide) fun L H2 hL1 e2 g2 => ?_
  have hne : a ≠ L := fresh_ne hL1 ha
  refine q_fld T.cl_BitWriter T.n_BitWriter_held (v := .int 0) ev_c (ev_var rfl) upd_same (Nat.le_of_ble_eq_true rfl) fun H3 e3 => ?_
  refine s_fld T.cl_BitWriter T.n_BitWriter_held_bits (v := .int 0) ev_c (ev_var rfl) upd_same (Nat.le_of_ble_eq_true rfl) fun H4 e4 => ?_
  refine k L _ hL1 (fun b o n e => ?_) ⟨dx, [], 0, 0, upd_same, ?_, by decide, by decide, (fun b hb => by cases hb), rfl⟩
  · rw [upd_ne n]
    refine e4 _ _ ?_
    rw [upd_ne n]
    refine e3 _ _ ?_
    rw [upd_ne n]
    exact e2 _ _ e
  · rw [upd_ne hne.symm]
    refine e4 _ _ ?_
    rw [upd_ne hne.symm]
    refine e3 _ _ ?_
    rw [upd_ne hne.symm]
    exact g2
def sp_wwrite (C : Addr) : Sp := fun vs H Q _ => ∃ (a L : Addr) (ms : List Bool) (wd : Nat) (v : Int), vs = [.ref a, .int (wd : Int), .int v] ∧ WrAt C H a L ms ∧ wd ≤ 1000 ∧ ms.length + wd ≤ 400000 ∧ ∀ H', FrW a L H H' → WrAt C H' a L (ms ++ bitsN wd (v % 2 ^ wd).toNat) → Q .non H'
theorem ok_BitWriter_write (T : TX K mg) : FnOk P w K mg base CX0 1 T.a_BitWriter_write T.d_BitWriter_write ["self", "width", "value"] (sp_wwrite T.C_BitWriter) := by
  refine T.F_BitWriter_write.ok sc_BitWriter_write (fun vs H Q E h => by obtain ⟨a, L, ms, wd, v, rfl, _⟩ := h; rfl) (fun cdv A outer s H vs Q E hr h => ?_)
  obtain ⟨a, L, ms, wd, v, rfl, hW, hw, hlen, k⟩ := h
  obtain ⟨dx, ws, hd, n, ha, hl, hn, hh, hws, hbits, hml⟩ := hW.len
  have hne := hW.ne
  refine ⟨_, (pss_cons (ps_set (i := 3) sc_BitWriter_write.nd rfl (Or.inl rfl) (pe_op op_or (pe_op op_shl (pe_fld (pv 0) rfl) (pv 1)) (pe_op op_and (pv 2) (pe_op op_sub (pe_op op_shl pe_int (pv 1)) pe_int))))
      (pss_cons (ps_set (i := 4) sc_BitWriter_write.nd rfl (Or.inl rfl) (pe_op op_add (pe_fld (pv 0) rfl) (pv 1)))
      (pss_cons (ps_while PassesOwn.never (pt_cmpR op_ge (pv 4) pe_int (nomark _)) (pss_cons (ps_aug (i := 4) sc_BitWriter_write.nd rfl (Or.inl rfl) pe_int ip_sub)
        (pss_cons (ps_expr (pe_bm PySem.F.plainAttrs_list PySem.F.slot_list_append PySem.F.type_list_append mt_append (pe_fld (pv 0) rfl) (pa_cons (pe_op op_shr (pv 3) (pv 4)) pa_nil)))
        (pss_one (ps_aug (i := 3) sc_BitWriter_write.nd rfl (Or.inl rfl) (pe_op op_sub (pe_op op_shl pe_int (pv 4)) pe_int) iop_and)))))
      (pss_cons (ps_fld (pv 0) (pv 3) rfl)
      (pss_one (ps_fld (pv 0) (pv 4) rfl)))))), ?_⟩
  have hm0 := Int.emod_nonneg v (show ((2 ^ wd : Nat) : Int) ≠ 0 by have := Nat.two_pow_pos wd; omega)
  have hm1 := Int.emod_lt_of_pos v (show (0 : Int) < ((2 ^ wd : Nat) : Int) by have := Nat.two_pow_pos wd; omega)
  rw [pow_cast wd] at k
  have hvv : Builtin.bitAnd v (1 * 2 ^ ((wd : Int)).toNat - 1) = (((v % ((2 ^ wd : Nat) : Int)).toNat : Nat) : Int) := by
    rw [Int.toNat_natCast, Int.one_mul, bitAnd_maskZ, pow_cast]
    omega
  have hvl : (v % ((2 ^ wd : Nat) : Int)).toNat < 2 ^ wd := by omega
  generalize hvn : (v % ((2 ^ wd : Nat) : Int)).toNat = vn at *
  have hh7 : hd < 256 := Nat.lt_of_lt_of_le hh (Nat.pow_le_pow_right (n := 2) (by decide) (by omega : n ≤ 8))
  refine q_asg (v := .int ((hd * 2 ^ wd + vn : Nat) : Int)) (Ev.is (ev_I0 (ev_I (ev_fld T.cl_BitWriter T.n_BitWriter_held (v := .int (hd : Int)) (ev_var rfl) ha rfl) (ev_var rfl) (show CPow (hd : Int) (wd : Int) from ⟨by omega, by omega, by rw [Int.natAbs_natCast]; omega⟩)) (ev_I0 (ev_var rfl) (ev_I0 (ev_I ev_c (ev_var rfl) (show CPow 1 (wd : Int) from ⟨by omega, by omega, by decide⟩)) ev_c))) (congrArg V.int ?_)) fun H1 e1 => ?_
  · rw [hvv, Int.toNat_natCast, _root_.Bits.bitOr_join' (by omega) (by rw [pow_cast]; omega) (by omega), Int.natCast_add, Int.natCast_mul, pow_cast]
    omega
  refine q_asg (v := .int ((n + wd : Nat) : Int)) (Ev.is (ev_I0 (ev_fld T.cl_BitWriter T.n_BitWriter_held_bits (v := .int (n : Int)) (ev_var rfl) (e1 _ _ ha) rfl) (ev_var rfl)) (congrArg V.int (by omega))) fun H2 e2 => ?_
  have ex2 := e1.trans e2
  refine q_while (fun m σ' H' => ∃ (x m' : Nat) (us : List Nat), m = m' ∧ m' ≤ n + wd ∧ σ' = [some (.ref a), some (.int (wd : Int)), some (.int v), some (.int (x : Int)), some (.int (m' : Int))] ∧ FrW a L H H' ∧ H' a = some (.ins T.C_BitWriter dx (wF L hd n)) ∧ H' L = some (.lst ((cs us).map V.int)) ∧ x < 2 ^ m' ∧ (∀ b ∈ us, b < 256) ∧ us.flatMap bits8 ++ bitsN m' x = ms ++ bitsN wd vn) (n + wd) ⟨hd * 2 ^ wd + vn, n + wd, ws, rfl, Nat.le_refl _, rfl, FrW.ex ex2, ex2 _ _ ha, ex2 _ _ hl, ?_, hws, ?_⟩ ?_
  · rw [Nat.pow_add]
    have : (hd + 1) * 2 ^ wd ≤ 2 ^ n * 2 ^ wd := Nat.mul_le_mul_right _ hh
    rw [Nat.add_mul, Nat.one_mul] at this
    omega
  · rw [bitsN_cat hvl, ← List.append_assoc, hbits]
  rintro m _ H3 ⟨x, _, us, rfl, hmle, rfl, hF, ha3, hl3, hx, hus, hb⟩
  have hul : 8 * us.length + m = ms.length + wd := by
    have := congrArg List.length hb
    rw [List.length_append, List.length_append, bits_flat_len, bitsN_len, bitsN_len] at this
    exact this
  refine ⟨decide (8 ≤ m), et_test (Ev.is (ev_I0 (ev_var rfl) ev_c) (congrArg V.bl (decide_eq_decide.mpr (by show (8 : Int) ≤ (m : Int) ↔ _; omega)))), fun hb8 H4 e4 => ?_, fun hb8 H4 e4 => ?_⟩
  · have h8 : 8 ≤ m := of_decide_eq_true hb8
    refine ⟨fun σ2 H2 => ∃ m', m' < m ∧ _, fun σ2 H2 h => h, ?_⟩
    refine q_aug (b := 8) rfl ev_c fun H5 e5 => ?_
    have hm8 : (m : Int) - 8 = ((m - 8 : Nat) : Int) := by omega
    rw [hm8]
    refine q_app (v := .int ((x / 2 ^ (m - 8) : Nat) : Int)) ((e4.trans e5) _ _ hl3) (ev_fld T.cl_BitWriter T.n_BitWriter_whole (v := .ref L) (ev_var rfl) ((e4.trans e5) _ _ ha3) rfl) (Ev.is (ev_I (ev_var rfl) (ev_var rfl) (by show (0 : Int) ≤ _; omega)) (congrArg V.int (by rw [Int.toNat_natCast, pow_cast, Int.natCast_ediv]))) (by rw [List.length_map, cs_len]; omega) fun H6 e6 => ?_
    refine s_augR (a := (x : Int)) (b := 1 * 2 ^ (m - 8) - 1) rfl (ev_I0 (ev_I ev_c (ev_var rfl) (show CPow 1 ((m - 8 : Nat) : Int) from ⟨by omega, by omega, by decide⟩)) ev_c) fun H7 e7 => ?_
    rw [Int.one_mul, bitAnd_maskZ, pow_cast, show (x : Int) % ((2 ^ (m - 8) : Nat) : Int) = ((x % 2 ^ (m - 8) : Nat) : Int) from (Int.natCast_emod _ _).symm]
    refine ⟨m - 8, by omega, x % 2 ^ (m - 8), m - 8, us ++ [x / 2 ^ (m - 8)], rfl, by omega, rfl, ?_, ?_, ?_, Nat.mod_lt _ (Nat.two_pow_pos _), ?_, ?_⟩
    · exact ((hF.trans (FrW.ex ((e4.trans e5).trans e6))).upd2).trans (FrW.ex e7)
    · refine e7 _ _ ?_
      rw [upd_ne hne]
      exact e6 _ _ ((e4.trans e5) _ _ ha3)
    · refine e7 _ _ ?_
      rw [upd_same, cs_append, List.map_append]
      rfl
    · intro b hb
      rcases List.mem_append.mp hb with h | h
      · exact hus b h
      · cases List.mem_singleton.mp h
        rw [show m = 8 + (m - 8) by omega, Nat.pow_add] at hx
        exact Nat.div_lt_of_lt_mul (by rw [Nat.mul_comm]; exact hx)
    · rw [← hb, List.flatMap_append, List.flatMap_cons, List.flatMap_nil, List.append_nil, List.append_assoc]
      congr 1
      conv => rhs; rw [show m = 8 + (m - 8) by omega, bitsN_add]
      rw [bitsN_mod]
      congr 1
  · have h8 : m < 8 := by
      have := of_decide_eq_false hb8
      omega
    refine q_fld T.cl_BitWriter T.n_BitWriter_held (v := .int (x : Int)) (ev_var rfl) (ev_var rfl) (e4 _ _ ha3) (Nat.le_of_ble_eq_true rfl) fun H5 e5 => ?_
    refine s_fld T.cl_BitWriter T.n_BitWriter_held_bits (v := .int (m : Int)) (ev_var rfl) (ev_var rfl) upd_same (Nat.le_of_ble_eq_true rfl) fun H6 e6 => ?_
    refine k _ (((((hF.trans (FrW.ex (e4.trans e5))).upd1).trans (FrW.ex e6)).upd1)) ⟨dx, us, x, m, upd_same, ?_, h8, hx, hus, hb⟩
    rw [upd_ne hne.symm]
    refine e6 _ _ ?_
    rw [upd_ne hne.symm]
    exact (e4.trans e5) _ _ hl3

theorem s_ext {σ : L2.St} {H : Hp} {ta te : TE} {D : Ends} {l b : Addr} {xs zs : List V} (hl : H l = some (.lst xs)) (hb : H b = some (.lst zs)) (ha : Ev ta σ H (.ref l)) (he : Ev te σ H (.ref b)) (hs : xs.length + zs.length ≤ 100000) (k : ∀ H1, Ex H H1 → D.nx σ (upd H1 l (.lst (xs ++ zs)))) : tDrop (tBM K "list" rExtend ta (tCons te tNil)) D σ H :=
  ha H (Ex.refl H) _ fun H1 e1 => ⟨.inl ⟨rfl, _, SqL.of (e1 _ _ hl)⟩, he H1 e1 _ fun H2 e2 => ⟨l, b, xs, zs, rfl, rfl, (e1.trans e2) _ _ hl, (e1.trans e2) _ _ hb, sz_of hs, k H2 (e1.trans e2)⟩⟩

def sp_wbytes (C : Addr) : Sp := fun vs H Q _ => ∃ (a L b : Addr) (ms : List Bool) (ds : List Nat), vs = [.ref a, .ref b] ∧ WrAt C H a L ms ∧ H b = some (.lst ((cs ds).map V.int)) ∧ b ≠ L ∧ (∀ d ∈ ds, d < 256) ∧ ms.length + 8 * ds.length ≤ 300000 ∧ ∀ H', FrW a L H H' → WrAt C H' a L (ms ++ ds.flatMap bits8) → Q .non H'
theorem bitsN_8 {d : Nat} (h : d < 256) : bitsN 8 ((d : Int) % 2 ^ 8).toNat = bits8 d := by
  rw [bits8_N]
  congr 1
  omega
theorem ok_BitWriter_append_bytes (T : TX K mg) : FnOk P w K mg base CX0 2 T.a_BitWriter_append_bytes T.d_BitWriter_append_bytes ["self", "data"] (sp_wbytes T.C_BitWriter) := by
  refine T.F_BitWriter_append_bytes.ok sc_BitWriter_append_bytes (fun vs H Q E h => by obtain ⟨a, L, b, ms, ds, rfl, _⟩ := h; rfl) (fun cdv A outer s H vs Q E hr h => ?_)
  obtain ⟨a, L, b, ms, ds, rfl, hW, hb, hbL, hds, hlen, k⟩ := h
  obtain ⟨dx, ws, hd, n, ha, hl, hn, hh, hws, hbits, hml⟩ := hW.len
  have hba : b ≠ a := by
    intro e
    rw [e, ha] at hb
    cases hb
  refine ⟨_, (pss_one (ps_if (pt_cmpR op_eq (pe_fld (pv 0) rfl) pe_int (nomark _)) (pss_one (ps_expr (pe_bm PySem.F.plainAttrs_list PySem.F.slot_list_extend PySem.F.type_list_extend mt_extend (pe_fld (pv 0) rfl) (pa_cons (pv 1) pa_nil)))) (pss_one (ps_for PassesOwn.never rfl (pi_list (pv 1)) (pg_name (i := 2) sc_BitWriter_append_bytes.nd rfl (Or.inl rfl)) (pss_one (ps_expr (pe_meth (pv 0) T.cl_BitWriter T.me_BitWriter_write (ok_BitWriter_write T) (hr.mono (by decide)) T.b_BitWriter_write .nil pass0 (pa_cons pe_int (pa_cons (pv 2) pa_nil))))))))), ?_⟩
  refine s_if (b := decide (n = 0)) (et_test (Ev.is (ev_eq (ev_fld T.cl_BitWriter T.n_BitWriter_held_bits (v := .int (n : Int)) (ev_var rfl) ha rfl) ev_c rfl) (congrArg V.bl (decide_eq_decide.mpr ⟨fun h => by have := V.int.inj h; omega, fun h => by rw [h]; rfl⟩)))) (fun h0 H1 e1 => ?_) (fun _ H1 e1 => ?_)
  · have h0 : n = 0 := of_decide_eq_true h0
    subst h0
    refine s_ext (e1 _ _ hl) (e1 _ _ hb) (ev_fld T.cl_BitWriter T.n_BitWriter_whole (v := .ref L) (ev_var rfl) (e1 _ _ ha) rfl) (ev_var rfl) (by rw [List.length_map, List.length_map, cs_len, cs_len]; omega) fun H2 e2 => ?_
    refine k _ (FrW.ex (e1.trans e2)).upd2 ⟨dx, ws ++ ds, hd, 0, ?_, ?_, by decide, hh, ?_, ?_⟩
    · rw [upd_ne hW.ne]
      exact (e1.trans e2) _ _ ha
    · rw [upd_same, cs_append, List.map_append]
    · intro d hd
      rcases List.mem_append.mp hd with h | h
      · exact hws d h
      · exact hds d h
    · rw [← hbits, List.flatMap_append]
      show _ ++ [] = _ ++ [] ++ _
      rw [List.append_nil, List.append_nil]
  · refine s_forLn (K := K) (xs := (cs ds).map V.int) (a := b) (ev_var rfl) (sq_of (e1 _ _ hb)) (fun i σ' H' => ∃ c, σ' = [some (.ref a), some (.ref b), c] ∧ FrW a L H H' ∧ WrAt T.C_BitWriter H' a L (ms ++ (ds.take i).flatMap bits8)) (fun H2 e2 => ⟨none, rfl, FrW.ex (e1.trans e2), by show WrAt _ _ _ _ (ms ++ []); rw [List.append_nil]; exact hW.ex (e1.trans e2)⟩) (fun i σ' H' _ h => by obtain ⟨_, _, hF, _⟩ := h; exact sq_of (hF _ _ hba hbL hb)) ?_ ?_
    · rintro i x σ' H2 hx ⟨c, rfl, hF, hW2⟩
      obtain ⟨n2, hn2, hi, rfl⟩ := int_at hx
      rw [cs_len] at hi
      have hd2 : ds[i]? = some ds[i] := List.getElem?_eq_getElem hi
      have hn3 := cs_at hd2
      rw [hn2] at hn3
      have hn3 := Option.some.inj hn3
      have hlt : ds[i] < 256 := hds _ (List.getElem_mem hi)
      rw [show ds.take (i + 1) = ds.take i ++ [ds[i]] from by rw [List.take_add_one, hd2]; rfl, List.flatMap_append, List.flatMap_cons, List.flatMap_nil, List.append_nil]
      generalize ds[i] = d at *
      subst hn3
      obtain ⟨dx2, ws2, hd2', nn, ha2, _⟩ := hW2.len
      refine s_dropM (vs := [.int 8, .int (d : Int)]) (ev_var rfl) ha2 rfl (ea_cons ev_c (ea_cons (ev_var rfl) ea_nil)) fun H4 e4 => ⟨a, L, _, 8, (d : Int), rfl, hW2.ex e4, by decide, by rw [List.length_append, bits_flat_len, List.length_take]; omega, fun H5 hF5 hW5 => ?_⟩
      rw [bitsN_8 hlt, List.append_assoc] at hW5
      exact ⟨_, rfl, (hF.trans (FrW.ex e4)).trans hF5, hW5⟩
    · rintro σ' H2 ⟨c, rfl, hF, hW2⟩
      rw [List.length_map, cs_len, List.take_length] at hW2
      exact k H2 hF hW2

def sp_wlist (C : Addr) : Sp := fun vs H Q _ => ∃ (a L : Addr) (ms : List Bool), vs = [.ref a] ∧ WrAt C H a L ms ∧ ms.length ≤ 300000 ∧ ∀ p us H', H p = none → Ex H H' → H' p = some (.lst ((cs us).map V.int)) → us.flatMap bits8 = ms ++ List.replicate (padN ms.length) false → (∀ b ∈ us, b < 256) → Q (.ref p) H'
theorem ok_BitWriter_byte_list (T : TX K mg) : FnOk P w K mg base CX0 1 T.a_BitWriter_byte_list T.d_BitWriter_byte_list ["self"] (sp_wlist T.C_BitWriter) := by
  refine T.F_BitWriter_byte_list.ok sc_BitWriter_byte_list (fun vs H Q E h => by obtain ⟨a, L, ms, rfl, _⟩ := h; rfl) (fun cdv A outer s H vs Q E hr h => ?_)
  obtain ⟨a, L, ms, rfl, hW, hlen, k⟩ := h
  obtain ⟨dx, ws, hd, n, ha, hl, hn, hh, hws, hbits, hml⟩ := hW.len
  have f1 : ∀ {H1 : Hp}, Ex H H1 → Ev (tFld K (tVar 0) "_whole") (start ["self"] [.ref a]) H1 (.ref L) := fun e => ev_fld T.cl_BitWriter T.n_BitWriter_whole (ev_var rfl) (e _ _ ha) rfl
  have f2 : ∀ {H1 : Hp}, Ex H H1 → Ev (tFld K (tVar 0) "_held") (start ["self"] [.ref a]) H1 (.int (hd : Int)) := fun e => ev_fld T.cl_BitWriter T.n_BitWriter_held (ev_var rfl) (e _ _ ha) rfl
  have f3 : ∀ {H1 : Hp}, Ex H H1 → Ev (tFld K (tVar 0) "_held_bits") (start ["self"] [.ref a]) H1 (.int (n : Int)) := fun e => ev_fld T.cl_BitWriter T.n_BitWriter_held_bits (ev_var rfl) (e _ _ ha) rfl
  refine ⟨_, (pss_cons (ps_if (pt_cmpR op_eq (pe_fld (pv 0) rfl) pe_int (nomark _)) (pss_one (ps_ret (pe_callTy (r := rListS K) call_list_of (by rfl) T.m_list PyProof.Rows.boot_list (pa_cons (pe_fld (pv 0) rfl) pa_nil)))) pss_nil)
      (pss_one (ps_ret (pe_op op_cat (pe_fld (pv 0) rfl) (pe_lst (pa_cons (pe_op op_shl (pe_fld (pv 0) rfl) (pe_op op_sub pe_int (pe_fld (pv 0) rfl))) pa_nil)))))), ?_⟩
  refine q_when (b := decide (n = 0)) (et_test (Ev.is (ev_eq (f3 (Ex.refl H)) ev_c rfl) (congrArg V.bl (decide_eq_decide.mpr ⟨fun h => by have := V.int.inj h; omega, fun h => by rw [h]; rfl⟩)))) (fun h0 H1 e1 => ?_) (fun h0 H1 e1 => ?_)
  · have h0 : n = 0 := of_decide_eq_true h0
    subst h0
    refine s_retL (el_of (Ev.s (f1 e1) (sq_of (e1 _ _ hl)))) fun p H2 hp e2 g2 => ?_
    refine k p ws H2 (by cases h : H p with | none => rfl | some o => rw [e1 _ _ h] at hp; cases hp) (e1.trans e2) g2 ?_ hws
    have : padN ms.length = 0 := by unfold padN; omega
    rw [this, ← hbits]
    show _ = _ ++ [] ++ []
    rw [List.append_nil, List.append_nil]
  · have h0 : ¬ n = 0 := of_decide_eq_false h0
    have hh8 : hd < 256 := Nat.lt_of_lt_of_le hh (Nat.pow_le_pow_right (n := 2) (by decide) (by omega : n ≤ 8))
    refine s_retL (xs := (cs (ws ++ [hd * 2 ^ (8 - n)])).map V.int) (EvL.is (el_cat (Ev.r (f1 e1) (e1 _ _ hl)) (EvL.r (el_lst (vs := [.int ((hd * 2 ^ (8 - n) : Nat) : Int)]) (ea_cons (Ev.is (ev_I (j := ((8 - n : Nat) : Int)) (f2 e1) (Ev.is (ev_I0 ev_c (f3 e1)) (congrArg V.int (by omega))) (show CPow (hd : Int) ((8 - n : Nat) : Int) from ⟨by omega, by omega, by rw [Int.natAbs_natCast]; omega⟩)) (congrArg V.int (by rw [Int.toNat_natCast, pow_cast, Int.natCast_mul]))) ea_nil) (Nat.le_of_ble_eq_true rfl))) ?_) ?_) fun p H2 hp e2 g2 => ?_
    · rw [List.length_map, cs_len]
      show _ + 1 ≤ _
      omega
    · rw [cs_append, List.map_append]
      rfl
    · refine k p _ H2 (by cases h : H p with | none => rfl | some o => rw [e1 _ _ h] at hp; cases hp) (e1.trans e2) g2 ?_ ?_
      · have : padN ms.length = 8 - n := by unfold padN; omega
        rw [this, ← hbits, List.flatMap_append, List.flatMap_cons, List.flatMap_nil, List.append_nil, List.append_assoc, bits8_N]
        congr 1
        have h8 : 8 = n + (8 - n) := by omega
        conv => lhs; rw [h8]
        rw [show n + (8 - n) - n = 8 - n by omega]
        have h3 := bitsN_cat (n := n) (w := 8 - n) (h := hd) (v := 0) (Nat.two_pow_pos _)
        rw [Nat.add_zero, bitsN_zero] at h3
        exact h3
      · intro d hdm
        rcases List.mem_append.mp hdm with h | h
        · exact hws d h
        · cases List.mem_singleton.mp h
          have h3 : hd * 2 ^ (8 - n) < 2 ^ n * 2 ^ (8 - n) := Nat.mul_lt_mul_of_pos_right hh (Nat.two_pow_pos _)
          rw [← Nat.pow_add, show n + (8 - n) = 8 by omega] at h3
          exact h3

theorem chunk : ∀ (us : List Nat) (k : Nat), k < us.length → ((us.flatMap bits8).drop (8 * k)).take 8 = bits8 (us.getD k 0)
  | u :: r, 0, _ => by
    rw [List.flatMap_cons]
    show ((bits8 u ++ _).drop 0).take 8 = bits8 u
    rw [List.drop_zero]
    exact List.take_left' (l₁ := bits8 u) rfl
  | u :: r, k + 1, h => by
    rw [List.flatMap_cons, show 8 * (k + 1) = (bits8 u).length + 8 * k by show _ = 8 + 8 * k; omega, List.drop_append, List.drop_of_length_le (by omega), List.nil_append, show (bits8 u).length + 8 * k - (bits8 u).length = 8 * k by omega]
    exact chunk r k (by simp at h; omega)
theorem us_of {ws : List Nat} {hd n : Nat} {ms : List Bool} (hn : n < 8) (hh : hd < 2 ^ n) (hws : ∀ b ∈ ws, b < 256) (hbits : ws.flatMap bits8 ++ bitsN n hd = ms) : ∃ us : List Nat, us.flatMap bits8 = ms ++ List.replicate (padN ms.length) false ∧ ∀ u ∈ us, u < 256 := by
  have hml : ms.length = 8 * ws.length + n := by rw [← hbits, List.length_append, bits_flat_len, bitsN_len]
  by_cases h0 : n = 0
  · subst h0
    refine ⟨ws, ?_, hws⟩
    have : padN ms.length = 0 := by unfold padN; omega
    rw [this, ← hbits]
    show _ = _ ++ [] ++ []
    rw [List.append_nil, List.append_nil]
  · refine ⟨ws ++ [hd * 2 ^ (8 - n)], ?_, ?_⟩
    · have : padN ms.length = 8 - n := by unfold padN; omega
      rw [this, ← hbits, List.flatMap_append, List.flatMap_cons, List.flatMap_nil, List.append_nil, List.append_assoc, bits8_N]
      congr 1
      have h8 : 8 = n + (8 - n) := by omega
      conv => lhs; rw [h8]
      rw [show n + (8 - n) - n = 8 - n by omega]
      have h3 := bitsN_cat (n := n) (w := 8 - n) (h := hd) (v := 0) (Nat.two_pow_pos _)
      rw [Nat.add_zero, bitsN_zero] at h3
      exact h3
    · intro d hdm
      rcases List.mem_append.mp hdm with h | h
      · exact hws d h
      · cases List.mem_singleton.mp h
        have h3 : hd * 2 ^ (8 - n) < 2 ^ n * 2 ^ (8 - n) := Nat.mul_lt_mul_of_pos_right hh (Nat.two_pow_pos _)
        rw [← Nat.pow_add, show n + (8 - n) = 8 by omega] at h3
        exact h3
theorem us_one {us vs : List Nat} (hu : ∀ u ∈ us, u < 256) (hv : ∀ u ∈ vs, u < 256) (h : us.flatMap bits8 = vs.flatMap bits8) : us = vs := by
  have hl : us.length = vs.length := by
    have := congrArg List.length h
    rw [bits_flat_len, bits_flat_len] at this
    omega
  refine List.ext_getElem? fun k => ?_
  by_cases hk : k < us.length
  · have h1 : us[k]? = some (us.getD k 0) := by rw [List.getD_eq_getElem?_getD, List.getElem?_eq_getElem hk]; rfl
    have h2 : vs[k]? = some (vs.getD k 0) := by rw [List.getD_eq_getElem?_getD, List.getElem?_eq_getElem (by omega)]; rfl
    have c1 := chunk us k hk
    have c2 := chunk vs k (by omega)
    rw [h, c2] at c1
    have c3 := congrArg valL c1
    rw [valL_8 _ (hu _ (List.mem_of_getElem? h1)), valL_8 _ (hv _ (List.mem_of_getElem? h2))] at c3
    rw [h1, h2, c3]
  · rw [List.getElem?_eq_none (by omega), List.getElem?_eq_none (by omega)]
theorem er_list {σ : L2.St} {H : Hp} {to : TE} {E : XK} {C a L : Addr} {ms : List Bool} {us : List Nat} (h : Ev to σ H (.ref a)) (hW : WrAt C H a L ms) (hl : ms.length ≤ 300000) (hus : us.flatMap bits8 = ms ++ List.replicate (padN ms.length) false) (hu : ∀ u ∈ us, u < 256) : EvL (tMeth C "byte_list" (sp_wlist C) [] E to tNil) σ H ((cs us).map V.int) := fun H1 e Q q => by
  obtain ⟨dx, ws, hd, n, ha, _⟩ := hW.len
  refine h H1 e _ fun H2 e2 => ⟨a, dx, _, rfl, (e.trans e2) _ _ ha, rfl, a, L, ms, rfl, hW.ex (e.trans e2), hl, fun p vs H3 hp e3 g3 hv1 hv2 => ?_⟩
  have := us_one hu hv2 (hus.trans hv1.symm)
  subst this
  exact q p H3 (by cases h : H1 p with | none => rfl | some o => rw [e2 _ _ h] at hp; cases hp) (e2.trans e3) g3
theorem WrAt.back {C a L : Addr} {H H1 : Hp} {ms ms1 : List Bool} (h : WrAt C H a L ms) (h1 : WrAt C H1 a L ms1) (hF : FrW a L H H1) {q : Addr} (hq : H1 q = none) : H q = none := by
  cases hc : H q with
  | none => rfl
  | some o =>
    obtain ⟨dx, ws, hd, n, ha, hl, _⟩ := h1
    by_cases e1 : q = a
    · rw [e1, ha] at hq
      cases hq
    · by_cases e2 : q = L
      · rw [e2, hl] at hq
        cases hq
      · rw [hF q o e1 e2 hc] at hq
        cases hq
theorem WrAt.fr {C a L a2 L2' : Addr} {H H1 : Hp} {ms : List Bool} (h : WrAt C H a L ms) (hF : FrW a2 L2' H H1) (n1 : a ≠ a2) (n2 : a ≠ L2') (n3 : L ≠ a2) (n4 : L ≠ L2') : WrAt C H1 a L ms := by
  obtain ⟨dx, ws, hd, n, h1, h2, h3⟩ := h
  exact ⟨dx, ws, hd, n, hF _ _ n1 n2 h1, hF _ _ n3 n4 h2, h3⟩
theorem self_mod {v w : Nat} (h : v < 2 ^ w) : ((v : Int) % 2 ^ w).toNat = v := by
  rw [pow_cast, show ((v : Int) % ((2 ^ w : Nat) : Int)) = ((v % 2 ^ w : Nat) : Int) from (Int.natCast_emod _ _).symm, Int.toNat_natCast, Nat.mod_eq_of_lt h]
theorem mk_w {C : Addr} {E : XK} {σ : L2.St} {H : Hp} {Q : VK} (k : ∀ a L H', H a = none → H L = none → Ex H H' → WrAt C H' a L [] → Q (.ref a) H') : tMake C (sp_winit C) [] E tNil σ H Q := fun x dx hx hdx hne => by
  have hex : ∀ b o, H b = some o → upd (upd H dx (HO.own x)) x (HO.ins C dx []) b = some o := fun b o hb => by
    rw [upd_ne (fresh_ne hx hb), upd_ne (fresh_ne hdx hb)]
    exact hb
  refine ⟨x, dx, rfl, upd_same, fun L H' hL hF hW => ⟨rfl, k x L H' hx ?_ (fun b o hb => hF b o (fresh_ne hx hb) (hex b o hb)) hW⟩⟩
  cases h : H L with
  | none => rfl
  | some o => rw [hex L o h] at hL; cases hL

/-! ### numbers of whole bytes -/
def valB (ds : List Nat) : Nat := ds.foldl (fun a d => a * 256 + d) 0
theorem valB_snoc (ds : List Nat) (d : Nat) : valB (ds ++ [d]) = valB ds * 256 + d := by unfold valB; rw [List.foldl_append]; rfl
theorem valB_lt {ds : List Nat} (h : ∀ d ∈ ds, d < 256) : ∀ i, i ≤ ds.length → valB (ds.take i) < 2 ^ (8 * i)
  | 0, _ => by rw [List.take_zero]; decide
  | i + 1, hi => by
    have ih := valB_lt h i (by omega)
    have hd : ds[i]? = some ds[i] := List.getElem?_eq_getElem (by omega)
    have hlt := h _ (List.mem_of_getElem? hd)
    rw [show ds.take (i + 1) = ds.take i ++ [ds[i]] from by rw [List.take_add_one, hd]; rfl, valB_snoc, show 8 * (i + 1) = 8 * i + 8 by omega, Nat.pow_add]
    have e : (2 : Nat) ^ 8 = 256 := rfl
    rw [e]
    omega
theorem bigB_take (x n : Nat) : ∀ i, i ≤ n → valB ((bigB x n).take i) = x / 2 ^ (8 * (n - i)) % 2 ^ (8 * i)
  | 0, _ => by
    rw [List.take_zero, Nat.mul_zero, Nat.pow_zero, Nat.mod_one]
    rfl
  | i + 1, hi => by
    have ih := bigB_take x n i (by omega)
    have hd : (bigB x n)[i]? = some (x / 2 ^ (8 * (n - 1 - i)) % 256) := by unfold bigB; rw [List.getElem?_map, List.getElem?_range (by omega)]; rfl
    rw [show (bigB x n).take (i + 1) = (bigB x n).take i ++ [x / 2 ^ (8 * (n - 1 - i)) % 256] from by rw [List.take_add_one, hd]; rfl, valB_snoc, ih, show n - (i + 1) = n - 1 - i by omega]
    have e1 : x / 2 ^ (8 * (n - i)) = x / 2 ^ (8 * (n - 1 - i)) / 256 := by
      rw [Nat.div_div_eq_div_mul, show 8 * (n - i) = 8 * (n - 1 - i) + 8 by omega, Nat.pow_add]
    rw [e1]
    generalize x / 2 ^ (8 * (n - 1 - i)) = y
    rw [show 8 * (i + 1) = 8 + 8 * i by omega, Nat.pow_add, show (2 : Nat) ^ 8 = 256 from rfl, Nat.mod_mul]
    omega
theorem valB_bigB {x n : Nat} (h : x < 2 ^ (8 * n)) : valB (bigB x n) = x := by
  have := bigB_take x n n (Nat.le_refl _)
  rw [List.take_of_length_le (by rw [bigB_len]; exact Nat.le_refl _), Nat.sub_self, Nat.mul_zero, Nat.pow_zero, Nat.div_one, Nat.mod_eq_of_lt h] at this
  exact this
theorem or_join8 (a d : Nat) (h : d < 256) : Builtin.bitOr ((a : Int) * 2 ^ (8 : Int).toNat) (d : Int) = ((a * 256 + d : Nat) : Int) := by
  have h1 := _root_.Bits.bitOr_join' (a := (d : Int)) (b := (a : Int)) (k := 8) (by omega) (by show _ < ((2 : Int) ^ 8); have e : ((2 : Int) ^ 8) = 256 := rfl; omega) (by omega)
  have e : (8 : Int).toNat = 8 := rfl
  rw [e, h1]
  have e2 : ((2 : Int) ^ 8) = 256 := rfl
  omega

/-- a number of the module -/
theorem ev_relC {σ : L2.St} {H : Hp} {i : Int} {u : Value} (_ : RelV (.int i) u) : Ev (tC (.int i)) σ H (.int i) := ev_c

theorem ev_isiT {σ : L2.St} {H : Hp} {ta : TE} {a : Addr} {xs : List V} (ha : Ev ta σ H (.ref a)) (h : H a = some (.tup xs)) : Ev (tCB (rIsi K) (tCons ta (tCons (tC (.ty "tuple")) tNil))) σ H (.bl true) := ev_isi ha (isi_tup h) kit_tt
theorem ev_lenT {σ : L2.St} {H : Hp} {ta : TE} {a : Addr} {xs : List V} (ha : Ev ta σ H (.ref a)) (h : H a = some (.tup xs)) : Ev (tCB (rLenS K) (tCons ta tNil)) σ H (.int (xs.length : Int)) := fun H1 e Q q =>
  ha H1 e _ fun H2 e2 => ⟨a, xs, rfl, .inr (st_of ((e.trans e2) _ _ h)), q H2 e2⟩

/-! ### what stands in a stream info -/
structure SI where
  b0 : Nat
  b1 : Nat
  f0 : Nat
  f1 : Nat
  rate : Nat
  ch : Nat
  dep : Nat
  len : Nat
  dg : List Nat
def numS (r : SI) : Nat := ((((((r.b0 * 65536 + r.b1) * 16777216 + r.f0) * 16777216 + r.f1) * 1048576 + r.rate) * 8 + (r.ch - 1)) * 32 + (r.dep - 1)) * 68719476736 + r.len
def okS (r : SI) : Prop := r.b0 < 65536 ∧ r.b1 < 65536 ∧ r.f0 < 16777216 ∧ r.f1 < 16777216 ∧ r.rate < 1048576 ∧ (1 ≤ r.ch ∧ r.ch ≤ 8) ∧ (1 ≤ r.dep ∧ r.dep ≤ 32) ∧ r.len < 68719476736 ∧ r.dg.length = 16 ∧ ∀ d ∈ r.dg, d < 256
def sB (r : SI) : List Nat := bigB (numS r) 18 ++ r.dg
theorem sB_len {r : SI} (h : okS r) : (sB r).length = 34 := by unfold sB; rw [List.length_append, bigB_len, h.2.2.2.2.2.2.2.2.1]
theorem sB_lt {r : SI} (h : okS r) : ∀ d ∈ sB r, d < 256 := fun d hd => by
  rcases List.mem_append.mp hd with g | g
  · exact bigB_lt _ _ d g
  · exact h.2.2.2.2.2.2.2.2.2 d g
theorem numS_lt {r : SI} (h : okS r) : numS r < 22300745198530623141535718272648361505980416 := by
  obtain ⟨h1, h2, h3, h4, h5, h6, h7, h8, -⟩ := h
  unfold numS
  omega
theorem numB_val (ds : List Nat) : numB ds = valB ds := rfl
theorem sB_bits {r : SI} (h : okS r) {pos w : Nat} (hp : pos + w ≤ 144) : valL (((sB r).flatMap bits8).drop pos |>.take w) = numS r / 2 ^ (144 - pos - w) % 2 ^ w := by
  have e144 : (2 : Nat) ^ (8 * 18) = 22300745198530623141535718272648361505980416 := by decide
  have hN : numB (bigB (numS r) 18) = numS r := by rw [numB_val]; exact valB_bigB (by rw [e144]; exact numS_lt h)
  have hb := (numB_bits (bigB (numS r) 18) (bigB_lt _ _) 18 (by rw [bigB_len]; exact Nat.le_refl _)).1
  rw [List.take_of_length_le (by rw [bigB_len]; exact Nat.le_refl _), hN] at hb
  unfold sB
  rw [List.flatMap_append, ← hb]
  have hl : (bitsN (8 * 18) (numS r)).length = 144 := bitsN_len _ _
  rw [List.drop_append_of_le_length (by omega), List.take_append_of_le_length (by rw [List.length_drop]; omega)]
  rw [show 8 * 18 = pos + (w + (144 - pos - w)) by omega, bitsN_add, bitsN_add, List.drop_left' (bitsN_len _ _), List.take_left' (bitsN_len _ _), valL_bitsN]
def siF (r : SI) (q : Addr) : List (Str × V) := [("least_block", .int (r.b0 : Int)), ("greatest_block", .int (r.b1 : Int)), ("least_frame", .int (r.f0 : Int)), ("greatest_frame", .int (r.f1 : Int)), ("rate", .int (r.rate : Int)), ("channel_count", .int (r.ch : Int)), ("depth", .int (r.dep : Int)), ("length", .int (r.len : Int)), ("digest", .ref q)]
def SiAt (C : Addr) (H : Hp) (a : Addr) (r : SI) : Prop := ∃ dx q, H a = some (.ins C dx (siF r q)) ∧ H q = some (.lst ((cs r.dg).map V.int))
def sp_sinit (K : PySem.W.Frag) (C : Addr) : Sp := fun vs H Q _ => ∃ (a dx d : Addr) (r : SI), vs = [.ref a, .int (r.b0 : Int), .int (r.b1 : Int), .int (r.f0 : Int), .int (r.f1 : Int), .int (r.rate : Int), .int (r.ch : Int), .int (r.dep : Int), .int (r.len : Int), .ref d] ∧ H a = some (.ins C dx []) ∧ H d = some (.lst ((cs r.dg).map V.int)) ∧ ∀ H' q, FrA a H H' → H' a = some (.ins C dx (siF r q)) → H q = none → H' q = some (.lst ((cs r.dg).map V.int)) → Q .non H'
theorem ok_StreamInfo_init (T : TX K mg) : FnOk P w K mg base CX0 1 T.a_StreamInfo_init T.d_StreamInfo_init ["self", "least_block", "greatest_block", "least_frame", "greatest_frame", "rate", "channel_count", "depth", "length", "digest"] (sp_sinit K T.C_StreamInfo) := by
  refine T.F_StreamInfo_init.ok sc_StreamInfo_init (fun vs H Q E h => by obtain ⟨a, dx, d, r, rfl, _⟩ := h; rfl) (fun cdv A outer s H vs Q E hr h => ?_)
  obtain ⟨a, dx, d, r, rfl, ha, hd, k⟩ := h
  refine ⟨_, (pss_cons (ps_fld (pv 0) (pv 1) rfl)
      (pss_cons (ps_fld (pv 0) (pv 2) rfl)
      (pss_cons (ps_fld (pv 0) (pv 3) rfl)
      (pss_cons (ps_fld (pv 0) (pv 4) rfl)
      (pss_cons (ps_fld (pv 0) (pv 5) rfl)
      (pss_cons (ps_fld (pv 0) (pv 6) rfl)
      (pss_cons (ps_fld (pv 0) (pv 7) rfl)
      (pss_cons (ps_fld (pv 0) (pv 8) rfl)
      (pss_one (ps_fld (pv 0) (pe_callTy (r := rListS K) call_list_of (by rfl) T.m_list PyProof.Rows.boot_list (pa_cons (pv 9) pa_nil)) rfl)))))))))), ?_⟩
  have hda : d ≠ a := by rintro rfl; rw [ha] at hd; cases hd
  refine q_fld T.cl_StreamInfo T.n_StreamInfo_least_block (v := .int (r.b0 : Int)) (ev_var rfl) (ev_var rfl) ha (by decide) fun H1 e1 => ?_
  refine q_fld T.cl_StreamInfo T.n_StreamInfo_greatest_block (v := .int (r.b1 : Int)) (ev_var rfl) (ev_var rfl) upd_same (Nat.le_of_ble_eq_true rfl) fun H2 e2 => ?_
  refine q_fld T.cl_StreamInfo T.n_StreamInfo_least_frame (v := .int (r.f0 : Int)) (ev_var rfl) (ev_var rfl) upd_same (Nat.le_of_ble_eq_true rfl) fun H3 e3 => ?_
  refine q_fld T.cl_StreamInfo T.n_StreamInfo_greatest_frame (v := .int (r.f1 : Int)) (ev_var rfl) (ev_var rfl) upd_same (Nat.le_of_ble_eq_true rfl) fun H4 e4 => ?_
  refine q_fld T.cl_StreamInfo T.n_StreamInfo_rate (v := .int (r.rate : Int)) (ev_var rfl) (ev_var rfl) upd_same (Nat.le_of_ble_eq_true rfl) fun H5 e5 => ?_
  refine q_fld T.cl_StreamInfo T.n_StreamInfo_channel_count (v := .int (r.ch : Int)) (ev_var rfl) (ev_var rfl) upd_same (Nat.le_of_ble_eq_true rfl) fun H6 e6 => ?_
  refine q_fld T.cl_StreamInfo T.n_StreamInfo_depth (v := .int (r.dep : Int)) (ev_var rfl) (ev_var rfl) upd_same (Nat.le_of_ble_eq_true rfl) fun H7 e7 => ?_
  refine q_fld T.cl_StreamInfo T.n_StreamInfo_length (v := .int (r.len : Int)) (ev_var rfl) (ev_var rfl) upd_same (Nat.le_of_ble_eq_true rfl) fun H8 e8 => ?_
  have f8 := ((((((((FrA.ex (a := a) e1).upd.trans (FrA.ex e2)).upd.trans (FrA.ex e3)).upd.trans (FrA.ex e4)).upd.trans (FrA.ex e5)).upd.trans (FrA.ex e6)).upd.trans (FrA.ex e7)).upd.trans (FrA.ex e8)).upd (o := .ins T.C_StreamInfo dx (putF "length" (.int (r.len : Int)) (putF "depth" (.int (r.dep : Int)) (putF "channel_count" (.int (r.ch : Int)) (putF "rate" (.int (r.rate : Int)) (putF "greatest_frame" (.int (r.f1 : Int)) (putF "least_frame" (.int (r.f0 : Int)) (putF "greatest_block" (.int (r.b1 : Int)) (putF "least_block" (.int (r.b0 : Int)) [])))))))))
  have hd8 := f8 d _ hda hd
  refine s_fldL (xs := (cs r.dg).map V.int) T.cl_StreamInfo T.n_StreamInfo_digest (el_of (Ev.s (ev_var rfl) (sq_of hd8))) (fun _ _ => ev_var rfl) upd_same (Nat.le_of_ble_eq_true rfl) fun q H9 hq e9 g9 => ?_
  have hqa : q ≠ a := by rintro rfl; rw [upd_same] at hq; cases hq
  refine k _ q (f8.trans (FrA.ex e9)).upd upd_same ?_ (by rw [upd_ne hqa]; exact g9)
  cases h : H q with
  | none => rfl
  | some o => rw [f8 q o hqa h] at hq; cases hq

theorem tcons_go {ta : TE} {tr : TA} {σ : L2.St} {H : Hp} {Q : List V → Hp → Prop} {v : V} (h : Ev ta σ H v) (k : ∀ H1, Ex H H1 → tr σ H1 fun xs H2 => Q (v :: xs) H2) : tCons ta tr σ H Q := h H (Ex.refl H) _ fun H1 e => k H1 e
theorem s_retTup {t : TA} {D : Ends} {σ : L2.St} {H : Hp} (h : t σ H fun xs H1 => xs.length ≤ sizeLine ∧ ∀ p, H1 p = none → D.rt (.ref p) (upd H1 p (.tup xs))) : tRet (tTup t) D σ H := h
def siD (r : SI) : PyData := .tuple [.int (r.b0 : Int), .int (r.b1 : Int), .int (r.f0 : Int), .int (r.f1 : Int), .int (r.rate : Int), .int (r.ch : Int), .int (r.dep : Int), .int (r.len : Int), .list ((cs r.dg).map PyData.int)]
def siV (r : SI) (q : Addr) : List V := [.int (r.b0 : Int), .int (r.b1 : Int), .int (r.f0 : Int), .int (r.f1 : Int), .int (r.rate : Int), .int (r.ch : Int), .int (r.dep : Int), .int (r.len : Int), .ref q]
theorem siV_d {H : Hp} {t q : Addr} {r : SI} (h : H t = some (.tup (siV r q))) (g : H q = some (.lst ((cs r.dg).map V.int))) : Dp K H (.ref t) (siD r) := .tup (st_of h) (.cons (.int _) (.cons (.int _) (.cons (.int _) (.cons (.int _) (.cons (.int _) (.cons (.int _) (.cons (.int _) (.cons (.int _) (.cons (.lst (sq_of g) (dp_ints _)) .nil)))))))))

def sp_sfields (K : PySem.W.Frag) (C : Addr) : Sp := fun vs H Q _ => ∃ (a : Addr) (r : SI), vs = [.ref a] ∧ SiAt C H a r ∧ ∀ t q H', H t = none → H q = none → Ex H H' → H' t = some (.tup (siV r q)) → H' q = some (.lst ((cs r.dg).map V.int)) → Q (.ref t) H'
theorem ok_StreamInfo_fields (T : TX K mg) : FnOk P w K mg base CX0 1 T.a_StreamInfo_fields T.d_StreamInfo_fields ["self"] (sp_sfields K T.C_StreamInfo) := by
  refine T.F_StreamInfo_fields.ok sc_StreamInfo_fields (fun vs H Q E h => by obtain ⟨a, r, rfl, _⟩ := h; rfl) (fun cdv A outer s H vs Q E hr h => ?_)
  obtain ⟨a, r, rfl, ⟨dx, q, ha, hq⟩, k⟩ := h
  refine ⟨_, (pss_one (ps_ret (pe_tup (pa_cons (pe_fld (pv 0) rfl) (pa_cons (pe_fld (pv 0) rfl) (pa_cons (pe_fld (pv 0) rfl) (pa_cons (pe_fld (pv 0) rfl) (pa_cons (pe_fld (pv 0) rfl) (pa_cons (pe_fld (pv 0) rfl) (pa_cons (pe_fld (pv 0) rfl) (pa_cons (pe_fld (pv 0) rfl) (pa_cons (pe_callTy (r := rListS K) call_list_of (by rfl) T.m_list PyProof.Rows.boot_list (pa_cons (pe_fld (pv 0) rfl) pa_nil)) pa_nil)))))))))))), ?_⟩
  refine s_retTup ?_
  refine tcons_go (ev_fld T.cl_StreamInfo T.n_StreamInfo_least_block (v := .int (r.b0 : Int)) (ev_var rfl) ha rfl) fun H1 e1 => ?_
  refine tcons_go (ev_fld T.cl_StreamInfo T.n_StreamInfo_greatest_block (v := .int (r.b1 : Int)) (ev_var rfl) (e1 _ _ ha) rfl) fun H2 e2 => ?_
  have e2 := e1.trans e2
  refine tcons_go (ev_fld T.cl_StreamInfo T.n_StreamInfo_least_frame (v := .int (r.f0 : Int)) (ev_var rfl) (e2 _ _ ha) rfl) fun H3 e3 => ?_
  have e3 := e2.trans e3
  refine tcons_go (ev_fld T.cl_StreamInfo T.n_StreamInfo_greatest_frame (v := .int (r.f1 : Int)) (ev_var rfl) (e3 _ _ ha) rfl) fun H4 e4 => ?_
  have e4 := e3.trans e4
  refine tcons_go (ev_fld T.cl_StreamInfo T.n_StreamInfo_rate (v := .int (r.rate : Int)) (ev_var rfl) (e4 _ _ ha) rfl) fun H5 e5 => ?_
  have e5 := e4.trans e5
  refine tcons_go (ev_fld T.cl_StreamInfo T.n_StreamInfo_channel_count (v := .int (r.ch : Int)) (ev_var rfl) (e5 _ _ ha) rfl) fun H6 e6 => ?_
  have e6 := e5.trans e6
  refine tcons_go (ev_fld T.cl_StreamInfo T.n_StreamInfo_depth (v := .int (r.dep : Int)) (ev_var rfl) (e6 _ _ ha) rfl) fun H7 e7 => ?_
  have e7 := e6.trans e7
  refine tcons_go (ev_fld T.cl_StreamInfo T.n_StreamInfo_length (v := .int (r.len : Int)) (ev_var rfl) (e7 _ _ ha) rfl) fun H8 e8 => ?_
  have e8 := e7.trans e8
  refine el_go (el_of (Ev.s (ev_fld T.cl_StreamInfo T.n_StreamInfo_digest (v := .ref q) (ev_var rfl) (e8 _ _ ha) rfl) (sq_of (e8 _ _ hq)))) fun p H9 hp e9 g9 => ⟨sz_of (show 9 ≤ 100000 by decide), fun t ht => k t p _ (fresh_back (e8.trans e9) ht) (fresh_back e8 hp) ((e8.trans e9).trans (Ex.new ht)) upd_same (Ex.new ht _ _ g9)⟩

def sp_chk (CF CD : Addr) : Sp := fun vs H Q E => ∃ (b0 b1 st : Nat), vs = [.int (b0 : Int), .int (b1 : Int), .int (st : Int)] ∧ (b0 < 16 → RdErr E CF "InvalidForm" st H) ∧ (¬ b0 < 16 → b1 < 16 → RdErr E CF "InvalidForm" (st + 2) H) ∧ (¬ b0 < 16 → ¬ b1 < 16 → b1 < b0 → RdErr E CD "Disagreement" (st + 2) H) ∧ (¬ b0 < 16 → ¬ b1 < 16 → ¬ b1 < b0 → RetV .non H Q)
theorem ok_check_blocks (T : TX K mg) : FnOk P w K mg base (L2N.CX P w) 3 T.a_check_blocks T.d_check_blocks ["least_block", "greatest_block", "start"] (sp_chk T.C_InvalidForm T.C_Disagreement) := by
  refine T.F_check_blocks.okN sc_check_blocks (fun vs H Q E h => by obtain ⟨b0, b1, st, rfl, _⟩ := h; rfl) (fun cdv A outer s H vs Q E hr h => ?_)
  obtain ⟨b0, b1, st, rfl, k1, k2, k3, k⟩ := h
  refine ⟨_, (pss_cons (ps_if (pt_cmpR op_lt (pv 0) (pe_glob (by rfl) T.c_LEAST_BLOCK T.r_LEAST_BLOCK) (nomark _)) (pss_one (L2N.ps_raise rfl (L2N.takes_of rfl rfl rfl rfl) (pmkN_oex T.x_InvalidForm.ox T.x_InvalidForm.iC T.ti_MonochordError_init (ok_MonochordError_init T) (hr.mono (by decide)) T.b_MonochordError_init .nil pass0 (by rfl) T.g_InvalidForm (pa_cons (pv 2) pa_nil)))) pss_nil)
      (pss_cons (ps_if (pt_cmpR op_lt (pv 1) (pe_glob (by rfl) T.c_LEAST_BLOCK T.r_LEAST_BLOCK) (nomark _)) (pss_one (L2N.ps_raise rfl (L2N.takes_of rfl rfl rfl rfl) (pmkN_oex T.x_InvalidForm.ox T.x_InvalidForm.iC T.ti_MonochordError_init (ok_MonochordError_init T) (hr.mono (by decide)) T.b_MonochordError_init .nil pass0 (by rfl) T.g_InvalidForm (pa_cons (pe_op op_add (pv 2) pe_int) pa_nil)))) pss_nil)
      (pss_one (ps_if (pt_cmpR op_gt (pv 0) (pv 1) (nomark _)) (pss_one (L2N.ps_raise rfl (L2N.takes_of rfl rfl rfl rfl) (pmkN_oex T.x_Disagreement.ox T.x_Disagreement.iC T.ti_MonochordError_init (ok_MonochordError_init T) (hr.mono (by decide)) T.b_MonochordError_init .nil pass0 (by rfl) T.g_Disagreement (pa_cons (pe_op op_add (pv 2) pe_int) pa_nil)))) pss_nil)))), ?_⟩
  refine q_when (b := decide (b0 < 16)) (et_is (et_test (ev_I0 (ev_var rfl) (ev_relC T.r_LEAST_BLOCK))) (decide_eq_decide.mpr (by omega))) (fun h H1 e1 => ?_) fun h1 H1 e1 => ?_
  · exact mk_err T.x_InvalidForm (ea_cons (ev_var rfl) ea_nil) fun H5 dd hdd e5 he => k1 (of_decide_eq_true h) H5 dd (e1.trans e5) he
  have h1 := of_decide_eq_false h1
  refine q_when (b := decide (b1 < 16)) (et_is (et_test (ev_I0 (ev_var rfl) (ev_relC T.r_LEAST_BLOCK))) (decide_eq_decide.mpr (by omega))) (fun h H2 e2 => ?_) fun h2 H2 e2 => ?_
  · exact mk_err T.x_InvalidForm (ea_cons (Ev.is (ev_I0 (ev_var rfl) ev_c) (congrArg V.int (a₂ := ((st + 2 : Nat) : Int)) (by omega))) ea_nil) fun H5 dd hdd e5 he => k2 h1 (of_decide_eq_true h) H5 dd (e1.trans (e2.trans e5)) he
  have h2 := of_decide_eq_false h2
  refine s_when (b := decide (b1 < b0)) (et_is (et_test (ev_I0 (ev_var rfl) (ev_var rfl))) (decide_eq_decide.mpr (by omega))) (fun h H3 e3 => ?_) fun h3 H3 e3 => k h1 h2 (of_decide_eq_false h3) H3 (e1.trans (e2.trans e3))
  exact mk_err T.x_Disagreement (ea_cons (Ev.is (ev_I0 (ev_var rfl) ev_c) (congrArg V.int (a₂ := ((st + 2 : Nat) : Int)) (by omega))) ea_nil) fun H5 dd hdd e5 he => k3 h1 h2 (of_decide_eq_true h) H5 dd (e1.trans (e2.trans (e3.trans e5))) he
def faultS (cnt : Nat) (r : SI) : Option (Bool × Nat) := if cnt ≠ 34 then some (true, 0) else if r.b0 < 16 then some (true, 0) else if r.b1 < 16 then some (true, 2) else if r.b1 < r.b0 then some (false, 2) else if r.f1 < r.f0 ∧ 0 < r.f1 then some (false, 7) else if r.dep < 4 then some (true, 12) else none
theorem q_readS {CT : Addr} {C : Addr} {E : L2.St → XK} {σ : L2.St} {H : Hp} {D : Ends} {tz : TS} {o d : Addr} {r : SI} {pos w x : Nat} {i : Nat} (h3 : σ[3]? = some (some (.ref o))) (hR : RdAt C H o d pos) (hd : H d = some (.lst ((cs (sB r)).map V.int))) (hod : o ≠ d) (ok : okS r) (hp : pos + w ≤ 144) (hw : w ≤ 64) (hx : numS r / 2 ^ (144 - pos - w) % 2 ^ w = x) (k : ∀ H', FrA o H H' → RdAt C H' o d (pos + w) → H' d = some (.lst ((cs (sB r)).map V.int)) → tz D (σ.set i (some (.int (x : Int)))) H') : tSeq (tAsg (tMethX C "read" (sp_readX C CT) [] E (tVar 3) (tCons (tC (.int (w : Int))) tNil)) (gName i)) tz D σ H := by
  obtain ⟨dx, ha⟩ := id hR
  refine q_asgMX (sp := sp_readX C CT) (m := "read") (dvs := []) (vs := [.int (w : Int)]) (ev_var h3) ha rfl (ea_cons ev_c ea_nil) fun H1 e1 => ⟨o, d, sB r, pos, w, rfl, hR.ex e1, e1 _ _ hd, sB_lt ok, hw, by rw [sB_len ok]; decide, fun _ H5 hF hR5 => ?_, fun hlt => by rw [sB_len ok] at hlt; omega⟩
  rw [sB_bits ok hp, hx]
  exact k H5 ((FrA.ex e1).trans hF) hR5 (hF _ _ (Ne.symm hod) (e1 _ _ hd))

theorem si_vals {r : SI} (h : okS r) : numS r / 340282366920938463463374607431768211456 % 65536 = r.b0 ∧ numS r / 5192296858534827628530496329220096 % 65536 = r.b1 ∧ numS r / 309485009821345068724781056 % 16777216 = r.f0 ∧ numS r / 18446744073709551616 % 16777216 = r.f1 ∧ numS r / 17592186044416 % 1048576 = r.rate ∧ numS r / 2199023255552 % 8 + 1 = r.ch ∧ numS r / 68719476736 % 32 + 1 = r.dep ∧ numS r / 1 % 68719476736 = r.len := by
  obtain ⟨h1, h2, h3, h4, h5, h6, h7, h8, -⟩ := h
  unfold numS
  refine ⟨by omega, by omega, by omega, by omega, by omega, by omega, by omega, by omega⟩
theorem q_readS1 {CT : Addr} {C : Addr} {E : L2.St → XK} {σ : L2.St} {H : Hp} {D : Ends} {tz : TS} {o d : Addr} {r : SI} {pos w x : Nat} {i : Nat} (h3 : σ[3]? = some (some (.ref o))) (hR : RdAt C H o d pos) (hd : H d = some (.lst ((cs (sB r)).map V.int))) (hod : o ≠ d) (ok : okS r) (hp : pos + w ≤ 144) (hw : w ≤ 64) (hx : numS r / 2 ^ (144 - pos - w) % 2 ^ w + 1 = x) (k : ∀ H', FrA o H H' → RdAt C H' o d (pos + w) → H' d = some (.lst ((cs (sB r)).map V.int)) → tz D (σ.set i (some (.int (x : Int)))) H') : tSeq (tAsg (tOp (rI0 fun i j => .int (i + j)) (tMethX C "read" (sp_readX C CT) [] E (tVar 3) (tCons (tC (.int (w : Int))) tNil)) (tC (.int 1))) (gName i)) tz D σ H := by
  obtain ⟨dx, ha⟩ := id hR
  refine mthX (sp := sp_readX C CT) (m := "read") (dvs := []) (vs := [.int (w : Int)]) (Q := fun x H2 => tC (.int 1) σ H2 fun y H3 => (rI0 fun i j => .int (i + j)) x y H3 fun z H4 => tz D (σ.set i (some z)) H4) (ev_var h3) ha rfl (ea_cons ev_c ea_nil) fun H1 e1 => ⟨o, d, sB r, pos, w, rfl, hR.ex e1, e1 _ _ hd, sB_lt ok, hw, by rw [sB_len ok]; decide, fun _ H5 hF hR5 => ?_, fun hlt => by rw [sB_len ok] at hlt; omega⟩
  rw [sB_bits ok hp]
  refine ⟨_, 1, rfl, rfl, ?_⟩
  show tz D (σ.set i (some (.int (((numS r / 2 ^ (144 - pos - w) % 2 ^ w : Nat) : Int) + 1)))) H5
  rw [show ((numS r / 2 ^ (144 - pos - w) % 2 ^ w : Nat) : Int) + 1 = (x : Int) by omega]
  exact k H5 ((FrA.ex e1).trans hF) hR5 (hF _ _ (Ne.symm hod) (e1 _ _ hd))
theorem q_dropCX {σ : L2.St} {H : Hp} {sp : Sp} {dvs args : List V} {E : L2.St → XK} {ta : TA} {D : Ends} {tz : TS} (h : EvA ta σ H args) (k : ∀ H1, Ex H H1 → sp (args ++ dvs) H1 (fun _ H2 => tz D σ H2) (E σ)) : tSeq (tDrop (tCallX sp dvs E ta)) tz D σ H := h H (Ex.refl H) _ fun H1 e => k H1 e
theorem FrA.exB {a : Addr} {H H' : Hp} (h : FrA a H H') {B : Hp} (e : Ex B H) (ha : B a = none) : Ex B H' := fun b o hb => h b o (ne_of_none hb ha) (e b o hb)
theorem mk_si {C : Addr} {E : XK} {σ : L2.St} {H : Hp} {Q : VK} {t : TA} {d : Addr} {r : SI} (h : EvA t σ H [.int (r.b0 : Int), .int (r.b1 : Int), .int (r.f0 : Int), .int (r.f1 : Int), .int (r.rate : Int), .int (r.ch : Int), .int (r.dep : Int), .int (r.len : Int), .ref d]) (hd : H d = some (.lst ((cs r.dg).map V.int))) (k : ∀ a H', Ex H H' → SiAt C H' a r → Q (.ref a) H') : tMake C (sp_sinit K C) [] E t σ H Q :=
  h H (Ex.refl H) _ fun H2 e2 => fun x dx hx hdx hne => by
    have hex : ∀ b o, H2 b = some o → upd (upd H2 dx (HO.own x)) x (HO.ins C dx []) b = some o := fun b o hb => by
      rw [upd_ne (fresh_ne hx hb), upd_ne (fresh_ne hdx hb)]
      exact hb
    exact ⟨x, dx, d, r, rfl, upd_same, hex _ _ (e2 _ _ hd), fun H' q hF hA _ hq => ⟨rfl, k x H' (fun b o hb => hF b o (fresh_ne hx (e2 _ _ hb)) (hex b o (e2 _ _ hb))) ⟨dx, q, hA, hq⟩⟩⟩
def sp_rsi (K : PySem.W.Frag) (CF CD C : Addr) : Sp := fun vs H Q E => ∃ (a : Addr) (pre body post : List Nat) (r : SI), vs = [.ref a, .int (pre.length : Int), .int ((pre.length + body.length : Nat) : Int)] ∧ SqL K H a ((cs (pre ++ (body ++ post))).map V.int) ∧ okS r ∧ (body.length = 34 → body = sB r) ∧ (∀ n, faultS body.length r = some (true, n) → RdErr E CF "InvalidForm" (pre.length + n) H) ∧ (∀ n, faultS body.length r = some (false, n) → RdErr E CD "Disagreement" (pre.length + n) H) ∧ (faultS body.length r = none → ∀ o H', Ex H H' → SiAt C H' o r → Q (.ref o) H')
theorem ok_read_streaminfo (T : TX K mg) : FnOk P w K mg base (L2N.CX P w) 5 T.a_read_streaminfo T.d_read_streaminfo ["data", "start", "stop"] (sp_rsi K T.C_InvalidForm T.C_Disagreement T.C_StreamInfo) := by
  refine T.F_read_streaminfo.okN sc_read_streaminfo (fun vs H Q E h => by obtain ⟨a, pre, body, post, r, rfl, _⟩ := h; rfl) (fun cdv A outer s H vs Q E hr h => ?_)
  obtain ⟨a, pre, body, post, r, rfl, hS, ok, hbody, kF, kD, k⟩ := h
  refine ⟨_, (pss_cons (ps_if (pt_cmpR op_ne (pe_op op_sub (pv 2) (pv 1)) (pe_glob (by rfl) T.c_LENGTH T.r_LENGTH) (nomark _)) (pss_one (L2N.ps_raise rfl (L2N.takes_of rfl rfl rfl rfl) (pmkN_oex T.x_InvalidForm.ox T.x_InvalidForm.iC T.ti_MonochordError_init (ok_MonochordError_init T) (hr.mono (by decide)) T.b_MonochordError_init .nil pass0 (by rfl) T.g_InvalidForm (pa_cons (pv 1) pa_nil)))) pss_nil)
      (pss_cons (ps_set (i := 3) sc_read_streaminfo.nd rfl (Or.inl rfl) (pe_make T.M_BitReader (ok_BitReader_init T) (hr.mono (by decide)) (by rfl) T.g_BitReader T.b2_BitReader_init T.v2_BitReader_init pass0 (pa_cons (pe_slice (r := rSlL K) sl_list (pv 0) (po_some (pv 1)) (po_some (pv 2))) pa_nil)))
      (pss_cons (ps_set (i := 4) sc_read_streaminfo.nd rfl (Or.inl rfl) (pe_methX (pv 3) T.cl_BitReader T.me_BitReader_read (ok_BitReader_read T) (hr.mono (by decide)) T.b_BitReader_read .nil (fun σ => L2N.passAt (L2N.takes_of rfl rfl rfl rfl) σ) (pa_cons pe_int pa_nil)))
      (pss_cons (ps_set (i := 5) sc_read_streaminfo.nd rfl (Or.inl rfl) (pe_methX (pv 3) T.cl_BitReader T.me_BitReader_read (ok_BitReader_read T) (hr.mono (by decide)) T.b_BitReader_read .nil (fun σ => L2N.passAt (L2N.takes_of rfl rfl rfl rfl) σ) (pa_cons pe_int pa_nil)))
      (pss_cons (ps_set (i := 6) sc_read_streaminfo.nd rfl (Or.inl rfl) (pe_methX (pv 3) T.cl_BitReader T.me_BitReader_read (ok_BitReader_read T) (hr.mono (by decide)) T.b_BitReader_read .nil (fun σ => L2N.passAt (L2N.takes_of rfl rfl rfl rfl) σ) (pa_cons pe_int pa_nil)))
      (pss_cons (ps_set (i := 7) sc_read_streaminfo.nd rfl (Or.inl rfl) (pe_methX (pv 3) T.cl_BitReader T.me_BitReader_read (ok_BitReader_read T) (hr.mono (by decide)) T.b_BitReader_read .nil (fun σ => L2N.passAt (L2N.takes_of rfl rfl rfl rfl) σ) (pa_cons pe_int pa_nil)))
      (pss_cons (ps_set (i := 8) sc_read_streaminfo.nd rfl (Or.inl rfl) (pe_methX (pv 3) T.cl_BitReader T.me_BitReader_read (ok_BitReader_read T) (hr.mono (by decide)) T.b_BitReader_read .nil (fun σ => L2N.passAt (L2N.takes_of rfl rfl rfl rfl) σ) (pa_cons pe_int pa_nil)))
      (pss_cons (ps_set (i := 9) sc_read_streaminfo.nd rfl (Or.inl rfl) (pe_op op_add (pe_methX (pv 3) T.cl_BitReader T.me_BitReader_read (ok_BitReader_read T) (hr.mono (by decide)) T.b_BitReader_read .nil (fun σ => L2N.passAt (L2N.takes_of rfl rfl rfl rfl) σ) (pa_cons pe_int pa_nil)) pe_int))
      (pss_cons (ps_set (i := 10) sc_read_streaminfo.nd rfl (Or.inl rfl) (pe_op op_add (pe_methX (pv 3) T.cl_BitReader T.me_BitReader_read (ok_BitReader_read T) (hr.mono (by decide)) T.b_BitReader_read .nil (fun σ => L2N.passAt (L2N.takes_of rfl rfl rfl rfl) σ) (pa_cons pe_int pa_nil)) pe_int))
      (pss_cons (ps_set (i := 11) sc_read_streaminfo.nd rfl (Or.inl rfl) (pe_methX (pv 3) T.cl_BitReader T.me_BitReader_read (ok_BitReader_read T) (hr.mono (by decide)) T.b_BitReader_read .nil (fun σ => L2N.passAt (L2N.takes_of rfl rfl rfl rfl) σ) (pa_cons pe_int pa_nil)))
      (pss_cons (ps_set (i := 12) sc_read_streaminfo.nd rfl (Or.inl rfl) (pe_methX (pv 3) T.cl_BitReader T.me_BitReader_read_bytes (ok_BitReader_read_bytes T) (hr.mono (by decide)) T.b_BitReader_read_bytes .nil (fun σ => L2N.passAt (L2N.takes_of rfl rfl rfl rfl) σ) (pa_cons pe_int pa_nil)))
      (pss_cons (ps_expr (pe_callX (ok_check_blocks T) (hr.mono (by decide)) (by rfl) T.g_check_blocks T.F_check_blocks.kp T.b_check_blocks .nil (fun σ => L2N.passAt (L2N.takes_of rfl rfl rfl rfl) σ) (pa_cons (pv 4) (pa_cons (pv 5) (pa_cons (pv 1) pa_nil)))))
      (pss_cons (ps_if (pt_chain op_gt op_gt (pv 6) (pv 7) pe_int) (pss_one (L2N.ps_raise rfl (L2N.takes_of rfl rfl rfl rfl) (pmkN_oex T.x_Disagreement.ox T.x_Disagreement.iC T.ti_MonochordError_init (ok_MonochordError_init T) (hr.mono (by decide)) T.b_MonochordError_init .nil pass0 (by rfl) T.g_Disagreement (pa_cons (pe_op op_add (pv 1) pe_int) pa_nil)))) pss_nil)
      (pss_cons (ps_if (pt_cmpR op_lt (pv 10) (pe_glob (by rfl) T.c_LEAST_DEPTH T.r_LEAST_DEPTH) (nomark _)) (pss_one (L2N.ps_raise rfl (L2N.takes_of rfl rfl rfl rfl) (pmkN_oex T.x_InvalidForm.ox T.x_InvalidForm.iC T.ti_MonochordError_init (ok_MonochordError_init T) (hr.mono (by decide)) T.b_MonochordError_init .nil pass0 (by rfl) T.g_InvalidForm (pa_cons (pe_op op_add (pv 1) pe_int) pa_nil)))) pss_nil)
      (pss_one (ps_ret (pe_make T.M_StreamInfo (ok_StreamInfo_init T) (hr.mono (by decide)) (by rfl) T.g_StreamInfo T.b_StreamInfo_init .nil pass0 (pa_cons (pv 4) (pa_cons (pv 5) (pa_cons (pv 6) (pa_cons (pv 7) (pa_cons (pv 8) (pa_cons (pv 9) (pa_cons (pv 10) (pa_cons (pv 11) (pa_cons (pv 12) pa_nil)))))))))))))))))))))))))), ?_⟩
  refine q_when (b := decide (body.length ≠ 34)) (et_is (et_test (ev_ne (ev_I0 (ev_var rfl) (ev_var rfl)) (ev_relC T.r_LENGTH) rfl)) (by
    rw [show ((pre.length + body.length : Nat) : Int) - (pre.length : Int) = (body.length : Int) by omega]
    by_cases h : body.length = 34
    · rw [h]; rfl
    · rw [decide_eq_true h, decide_eq_false (fun z => h (by have := V.int.inj z; omega))]; rfl)) (fun h H1 e1 => ?_) fun h H1 e1 => ?_
  · refine mk_err T.x_InvalidForm (ea_cons (ev_var rfl) ea_nil) fun H5 dd hdd e5 he => kF 0 ?_ H5 dd (e1.trans e5) he
    unfold faultS
    rw [if_pos (of_decide_eq_true h)]
  have h : body.length = 34 := by have := of_decide_eq_false h; omega
  have hb := hbody h
  have ok' := ok
  obtain ⟨h1, h2, h3, h4, h5, h6, h7, h8, h9, h10⟩ := ok'
  refine q_mk_r0 (xs := (cs (sB r)).map V.int) (EvL.is (el_mid (i := pre.length) (j := pre.length + body.length) (Ev.s (ev_var rfl) (ex_l e1 hS)) (ev_var rfl) (ev_var rfl)) (by rw [cs_drop, cs_take, List.drop_left, show pre.length + body.length - pre.length = body.length by omega, List.take_left, hb])) fun o d H2 ho hod hd e2 gd hR => ?_
  have e12 := e1.trans e2
  have hoB : H o = none := fresh_back e1 ho
  have p16 : (2 : Nat) ^ 16 = 65536 := rfl
  refine q_readS (r := r) (x := r.b0) rfl hR gd hod ok (by decide) (by decide) (si_vals ok).1 fun H3 f3 hR gd => ?_
  refine q_readS (r := r) (x := r.b1) rfl hR gd hod ok (by decide) (by decide) (si_vals ok).2.1 fun H4 f4 hR gd => ?_
  refine q_readS (r := r) (x := r.f0) rfl hR gd hod ok (by decide) (by decide) (si_vals ok).2.2.1 fun H5 f5 hR gd => ?_
  refine q_readS (r := r) (x := r.f1) rfl hR gd hod ok (by decide) (by decide) (si_vals ok).2.2.2.1 fun H6 f6 hR gd => ?_
  refine q_readS (r := r) (x := r.rate) rfl hR gd hod ok (by decide) (by decide) (si_vals ok).2.2.2.2.1 fun H7 f7 hR gd => ?_
  refine q_readS1 (r := r) (x := r.ch) rfl hR gd hod ok (by decide) (by decide) (si_vals ok).2.2.2.2.2.1 fun H8 f8 hR gd => ?_
  refine q_readS1 (r := r) (x := r.dep) rfl hR gd hod ok (by decide) (by decide) (si_vals ok).2.2.2.2.2.2.1 fun H9 f9 hR gd => ?_
  refine q_readS (r := r) (x := r.len) rfl hR gd hod ok (by decide) (by decide) (si_vals ok).2.2.2.2.2.2.2 fun H10 f10 hR gd => ?_
  have f2_10 := f3.trans (f4.trans (f5.trans (f6.trans (f7.trans (f8.trans (f9.trans f10))))))
  obtain ⟨dx, ha⟩ := id hR
  refine q_asgMX (sp := sp_readB T.C_BitReader T.C_Truncated) (m := "read_bytes") (dvs := []) (vs := [.int ((16 : Nat) : Int)]) (ev_var rfl) ha rfl (ea_cons ev_c ea_nil) fun H11 e11 => ⟨o, d, sB r, 144, 16, rfl, hR.ex e11, e11 _ _ gd, sB_lt ok, by rw [sB_len ok]; decide, by decide, fun _ p H12 hp f12 hR12 g12 => ?_, fun hlt => by rw [sB_len ok] at hlt; omega⟩
  rw [show (144 : Nat) = 8 * 18 from rfl, bytesAt_al (sB_lt ok) (by rw [sB_len ok]; decide)] at g12
  have hdg : ((sB r).drop 18).take 16 = r.dg := by
    unfold sB
    rw [List.drop_left' (bigB_len _ _), List.take_of_length_le (by omega)]
  rw [hdg] at g12
  have eB12 : Ex H H12 := (f2_10.trans ((FrA.ex e11).trans f12)).exB e12 hoB
  unfold faultS at kF kD k
  rw [if_neg (by omega)] at kF kD k
  refine q_dropCX (sp := sp_chk T.C_InvalidForm T.C_Disagreement) (dvs := []) (args := [.int (r.b0 : Int), .int (r.b1 : Int), .int (pre.length : Int)]) (ea_cons (ev_var rfl) (ea_cons (ev_var rfl) (ea_cons (ev_var rfl) ea_nil))) fun H13 e13 => ⟨r.b0, r.b1, pre.length, rfl, fun c H14 dd e14 he => kF 0 (by rw [if_pos c]) H14 dd (eB12.trans (e13.trans e14)) he, fun c1 c H14 dd e14 he => kF 2 (by rw [if_neg c1, if_pos c]) H14 dd (eB12.trans (e13.trans e14)) he, fun c1 c2 c H14 dd e14 he => kD 2 (by rw [if_neg c1, if_neg c2, if_pos c]) H14 dd (eB12.trans (e13.trans e14)) he, fun c1 c2 c3 H14 e14 => ?_⟩
  rw [if_neg c1, if_neg c2, if_neg c3] at kF kD k
  have eB14 := eB12.trans (e13.trans e14)
  refine q_when (b := decide (r.f1 < r.f0 ∧ 0 < r.f1)) (et_is (et_test (ev_chain (ev_var rfl) (ev_var rfl) ev_c)) (by rw [Bool.eq_iff_iff, Bool.and_eq_true, decide_eq_true_iff, decide_eq_true_iff, decide_eq_true_iff]; omega)) (fun c H15 e15 => ?_) fun c H15 e15 => ?_
  · exact mk_err T.x_Disagreement (ea_cons (Ev.is (ev_I0 (ev_var rfl) ev_c) (congrArg V.int (a₂ := ((pre.length + 7 : Nat) : Int)) (by omega))) ea_nil) fun H16 dd hdd e16 he => kD 7 (by rw [if_pos (of_decide_eq_true c)]) H16 dd (eB14.trans (e15.trans e16)) he
  have c := of_decide_eq_false c
  rw [if_neg c] at kF kD k
  refine q_when (b := decide (r.dep < 4)) (et_is (et_test (ev_I0 (ev_var rfl) (ev_relC T.r_LEAST_DEPTH))) (decide_eq_decide.mpr (by omega))) (fun c H16 e16 => ?_) fun c H16 e16 => ?_
  · exact mk_err T.x_InvalidForm (ea_cons (Ev.is (ev_I0 (ev_var rfl) ev_c) (congrArg V.int (a₂ := ((pre.length + 12 : Nat) : Int)) (by omega))) ea_nil) fun H17 dd hdd e17 he => kF 12 (by rw [if_pos (of_decide_eq_true c)]) H17 dd (eB14.trans (e15.trans (e16.trans e17))) he
  have c := of_decide_eq_false c
  rw [if_neg c] at k
  have e1216 := e13.trans (e14.trans (e15.trans e16))
  exact mk_si (r := r) (d := p) (ea_cons (ev_var rfl) (ea_cons (ev_var rfl) (ea_cons (ev_var rfl) (ea_cons (ev_var rfl) (ea_cons (ev_var rfl) (ea_cons (ev_var rfl) (ea_cons (ev_var rfl) (ea_cons (ev_var rfl) (ea_cons (ev_var rfl) ea_nil))))))))) (e1216 _ _ g12) fun x H17 e17 hx => k rfl x H17 (eB12.trans (e1216.trans e17)) hx

def sp_lbody : Sp := fun vs H Q _ => ∃ (rt q : Addr) (r : SI), vs = [.ref rt] ∧ H rt = some (.tup (siV r q)) ∧ H q = some (.lst ((cs r.dg).map V.int)) ∧ okS r ∧ RetL ((cs (sB r)).map V.int) H Q
theorem ok_law_body (T : TX K mg) : FnOk P w K mg base CX0 2 T.a_law_body T.d_law_body ["row"] sp_lbody := by
  refine T.F_law_body.ok sc_law_body (fun vs H Q E h => by obtain ⟨rt, q, r, rfl, _⟩ := h; rfl) (fun cdv A outer s0 H vs Q E hr h => ?_)
  obtain ⟨rt, q, r, rfl, hrt, hq, ok, k⟩ := h
  refine ⟨_, (pss_cons (ps_set (i := 1) sc_law_body.nd rfl (Or.inl rfl) (pe_ix (r := rIxT K) ix_tup (pv 0) pe_int (fun _ _ => rfl)))
      (pss_cons (ps_set (i := 1) sc_law_body.nd rfl (Or.inl rfl) (pe_op op_add (pe_op op_mul (pv 1) pe_int) (pe_ix (r := rIxT K) ix_tup (pv 0) pe_int (fun _ _ => rfl))))
      (pss_cons (ps_set (i := 1) sc_law_body.nd rfl (Or.inl rfl) (pe_op op_add (pe_op op_mul (pv 1) pe_int) (pe_ix (r := rIxT K) ix_tup (pv 0) pe_int (fun _ _ => rfl))))
      (pss_cons (ps_set (i := 1) sc_law_body.nd rfl (Or.inl rfl) (pe_op op_add (pe_op op_mul (pv 1) pe_int) (pe_ix (r := rIxT K) ix_tup (pv 0) pe_int (fun _ _ => rfl))))
      (pss_cons (ps_set (i := 1) sc_law_body.nd rfl (Or.inl rfl) (pe_op op_add (pe_op op_mul (pv 1) pe_int) (pe_ix (r := rIxT K) ix_tup (pv 0) pe_int (fun _ _ => rfl))))
      (pss_cons (ps_set (i := 1) sc_law_body.nd rfl (Or.inl rfl) (pe_op op_sub (pe_op op_add (pe_op op_mul (pv 1) pe_int) (pe_ix (r := rIxT K) ix_tup (pv 0) pe_int (fun _ _ => rfl))) pe_int))
      (pss_cons (ps_set (i := 1) sc_law_body.nd rfl (Or.inl rfl) (pe_op op_sub (pe_op op_add (pe_op op_mul (pv 1) pe_int) (pe_ix (r := rIxT K) ix_tup (pv 0) pe_int (fun _ _ => rfl))) pe_int))
      (pss_cons (ps_set (i := 1) sc_law_body.nd rfl (Or.inl rfl) (pe_op op_add (pe_op op_mul (pv 1) pe_int) (pe_ix (r := rIxT K) ix_tup (pv 0) pe_int (fun _ _ => rfl))))
      (pss_one (ps_ret (pe_op op_cat (pe_call (ok_law_number_bytes T) (hr.mono (by decide)) (by rfl) T.g_law_number_bytes T.F_law_number_bytes.kp T.b_law_number_bytes .nil pass0 (pa_cons (pv 1) (pa_cons pe_int pa_nil))) (pe_ix (r := rIxT K) ix_tup (pv 0) pe_int (fun _ _ => rfl))))))))))))), ?_⟩
  have at_ : ∀ {σ : L2.St} {H1 : Hp} (j : Nat) (v : V), σ[0]? = some (some (.ref rt)) → Ex H H1 → (siV r q)[j]? = some v → Ev (tOp (rIxT K) (tVar 0) (tC (.int (j : Int)))) σ H1 v := fun j v hσ e1 hv => ev_atT (ev_var hσ) (st_of (e1 _ _ hrt)) ev_c (at_of (j := j) rfl hv)
  obtain ⟨-, -, -, -, -, h6, h7, -, h9, -⟩ := id ok
  refine q_asg (v := .int (r.b0 : Int)) (at_ 0 _ rfl (Ex.refl _) rfl) fun H1 e1 => ?_
  obtain ⟨n1, hn1⟩ : ∃ n1, r.b0 * 65536 + r.b1 = n1 := ⟨_, rfl⟩
  refine q_asg (v := .int (n1 : Int)) (Ev.is (ev_I0 (ev_I (ev_var rfl) ev_c (.inr (by decide))) (at_ 1 (.int (r.b1 : Int)) rfl e1 rfl)) (congrArg V.int (by omega))) fun H2 e2 => ?_
  have e2 := e1.trans e2
  obtain ⟨n2, hn2⟩ : ∃ n2, n1 * 16777216 + r.f0 = n2 := ⟨_, rfl⟩
  refine q_asg (v := .int (n2 : Int)) (Ev.is (ev_I0 (ev_I (ev_var rfl) ev_c (.inr (by decide))) (at_ 2 (.int (r.f0 : Int)) rfl e2 rfl)) (congrArg V.int (by omega))) fun H3 e3 => ?_
  have e3 := e2.trans e3
  obtain ⟨n3, hn3⟩ : ∃ n3, n2 * 16777216 + r.f1 = n3 := ⟨_, rfl⟩
  refine q_asg (v := .int (n3 : Int)) (Ev.is (ev_I0 (ev_I (ev_var rfl) ev_c (.inr (by decide))) (at_ 3 (.int (r.f1 : Int)) rfl e3 rfl)) (congrArg V.int (by omega))) fun H4 e4 => ?_
  have e4 := e3.trans e4
  obtain ⟨n4, hn4⟩ : ∃ n4, n3 * 1048576 + r.rate = n4 := ⟨_, rfl⟩
  refine q_asg (v := .int (n4 : Int)) (Ev.is (ev_I0 (ev_I (ev_var rfl) ev_c (.inr (by decide))) (at_ 4 (.int (r.rate : Int)) rfl e4 rfl)) (congrArg V.int (by omega))) fun H5 e5 => ?_
  have e5 := e4.trans e5
  obtain ⟨n5, hn5⟩ : ∃ n5, n4 * 8 + (r.ch - 1) = n5 := ⟨_, rfl⟩
  refine q_asg (v := .int (n5 : Int)) (Ev.is (ev_I0 (ev_I0 (ev_I (ev_var rfl) ev_c (.inr (by decide))) (at_ 5 (.int (r.ch : Int)) rfl e5 rfl)) ev_c) (congrArg V.int (by omega))) fun H6 e6 => ?_
  have e6 := e5.trans e6
  obtain ⟨n6, hn6⟩ : ∃ n6, n5 * 32 + (r.dep - 1) = n6 := ⟨_, rfl⟩
  refine q_asg (v := .int (n6 : Int)) (Ev.is (ev_I0 (ev_I0 (ev_I (ev_var rfl) ev_c (.inr (by decide))) (at_ 6 (.int (r.dep : Int)) rfl e6 rfl)) ev_c) (congrArg V.int (by omega))) fun H7 e7 => ?_
  have e7 := e6.trans e7
  refine q_asg (v := .int (numS r : Int)) (Ev.is (ev_I0 (ev_I (ev_var rfl) ev_c (.inr (by decide))) (at_ 7 (.int (r.len : Int)) rfl e7 rfl)) (congrArg V.int (by unfold numS; rw [hn1, hn2, hn3, hn4, hn5, hn6]; omega))) fun H8 e8 => ?_
  have e8 := e7.trans e8
  exact s_retL (EvL.is (el_cat (EvL.r (el_numb (x := numS r) (n := 18) (ev_var rfl) ev_c (by decide))) (Ev.r (at_ 8 (.ref q) rfl e8 rfl) (e8 _ _ hq)) (by rw [List.length_map, cs_len, bigB_len, List.length_map, cs_len]; omega)) (by unfold sB; rw [cs_append, List.map_append])) fun p H9 hp e9 g9 => k.go e8 hp e9 g9

/-! ### writing -/
theorem q_mkw {C : Addr} {E : XK} {σ : L2.St} {H : Hp} {D : Ends} {tz : TS} {i : Nat} (k : ∀ a L H', H a = none → H L = none → Ex H H' → WrAt C H' a L [] → tz D (σ.set i (some (.ref a))) H') : tSeq (tAsg (tMake C (sp_winit C) [] E tNil) (gName i)) tz D σ H := mk_w (σ := σ) (Q := fun x H' => tz D (σ.set i (some x)) H') k
theorem FrW.ex0 {a L : Addr} {B H H' : Hp} (f : FrW a L H H') (e : Ex B H) (ha : B a = none) (hL : B L = none) : Ex B H' := fun b o hb => f b o (by rintro rfl; rw [ha] at hb; cases hb) (by rintro rfl; rw [hL] at hb; cases hb) (e b o hb)
theorem q_wr {C : Addr} {E : XK} {σ : L2.St} {H : Hp} {te : TE} {D : Ends} {tz : TS} {o L : Addr} {ms : List Bool} {wd v : Nat} {j : Nat} (h1 : σ[j]? = some (some (.ref o))) (hW : WrAt C H o L ms) (hw : wd ≤ 64) (hm : ms.length ≤ 1000) (hv : v < 2 ^ wd) (he : ∀ {H'}, Ex H H' → Ev te σ H' (.int (v : Int))) (k : ∀ H', FrW o L H H' → WrAt C H' o L (ms ++ bitsN wd v) → tz D σ H') :
    tSeq (tDrop (tMeth C "write" (sp_wwrite C) [] E (tVar j) (tCons (tC (.int (wd : Int))) (tCons te tNil)))) tz D σ H := by
  obtain ⟨dx, ws, hd, n, ha, _⟩ := hW.len
  refine q_dropM (vs := [.int (wd : Int), .int (v : Int)]) (ev_var h1) ha rfl (ea_cons ev_c (ea_cons (he (Ex.refl _)) ea_nil)) fun H1 e1 => ⟨o, L, ms, wd, (v : Int), rfl, hW.ex e1, by omega, by omega, fun H2 f2 hW2 => ?_⟩
  rw [self_mod hv] at hW2
  exact k H2 ((FrW.ex e1).trans f2) hW2
def sp_wsi (C : Addr) : Sp := fun vs H Q _ => ∃ (a : Addr) (r : SI), vs = [.ref a] ∧ SiAt C H a r ∧ okS r ∧ RetL ((cs (sB r)).map V.int) H Q
theorem ok_write_streaminfo (T : TX K mg) : FnOk P w K mg base CX0 3 T.a_write_streaminfo T.d_write_streaminfo ["info"] (sp_wsi T.C_StreamInfo) := by
  refine T.F_write_streaminfo.ok sc_write_streaminfo (fun vs H Q E h => by obtain ⟨a, r, rfl, _⟩ := h; rfl) (fun cdv A outer s H vs Q E hr h => ?_)
  obtain ⟨a, r, rfl, ⟨dx, q, ha, hq⟩, ok, k⟩ := h
  refine ⟨_, (pss_cons (ps_set (i := 1) sc_write_streaminfo.nd rfl (Or.inl rfl) (pe_make0 T.M_BitWriter (ok_BitWriter_init T) (hr.mono (by decide)) (by rfl) T.g_BitWriter T.b_BitWriter_init .nil pass0))
      (pss_cons (ps_expr (pe_meth (pv 1) T.cl_BitWriter T.me_BitWriter_write (ok_BitWriter_write T) (hr.mono (by decide)) T.b_BitWriter_write .nil pass0 (pa_cons pe_int (pa_cons (pe_fld (pv 0) rfl) pa_nil))))
      (pss_cons (ps_expr (pe_meth (pv 1) T.cl_BitWriter T.me_BitWriter_write (ok_BitWriter_write T) (hr.mono (by decide)) T.b_BitWriter_write .nil pass0 (pa_cons pe_int (pa_cons (pe_fld (pv 0) rfl) pa_nil))))
      (pss_cons (ps_expr (pe_meth (pv 1) T.cl_BitWriter T.me_BitWriter_write (ok_BitWriter_write T) (hr.mono (by decide)) T.b_BitWriter_write .nil pass0 (pa_cons pe_int (pa_cons (pe_fld (pv 0) rfl) pa_nil))))
      (pss_cons (ps_expr (pe_meth (pv 1) T.cl_BitWriter T.me_BitWriter_write (ok_BitWriter_write T) (hr.mono (by decide)) T.b_BitWriter_write .nil pass0 (pa_cons pe_int (pa_cons (pe_fld (pv 0) rfl) pa_nil))))
      (pss_cons (ps_expr (pe_meth (pv 1) T.cl_BitWriter T.me_BitWriter_write (ok_BitWriter_write T) (hr.mono (by decide)) T.b_BitWriter_write .nil pass0 (pa_cons pe_int (pa_cons (pe_fld (pv 0) rfl) pa_nil))))
      (pss_cons (ps_expr (pe_meth (pv 1) T.cl_BitWriter T.me_BitWriter_write (ok_BitWriter_write T) (hr.mono (by decide)) T.b_BitWriter_write .nil pass0 (pa_cons pe_int (pa_cons (pe_op op_sub (pe_fld (pv 0) rfl) pe_int) pa_nil))))
      (pss_cons (ps_expr (pe_meth (pv 1) T.cl_BitWriter T.me_BitWriter_write (ok_BitWriter_write T) (hr.mono (by decide)) T.b_BitWriter_write .nil pass0 (pa_cons pe_int (pa_cons (pe_op op_sub (pe_fld (pv 0) rfl) pe_int) pa_nil))))
      (pss_cons (ps_expr (pe_meth (pv 1) T.cl_BitWriter T.me_BitWriter_write (ok_BitWriter_write T) (hr.mono (by decide)) T.b_BitWriter_write .nil pass0 (pa_cons pe_int (pa_cons (pe_fld (pv 0) rfl) pa_nil))))
      (pss_cons (ps_expr (pe_meth (pv 1) T.cl_BitWriter T.me_BitWriter_append_bytes (ok_BitWriter_append_bytes T) (hr.mono (by decide)) T.b_BitWriter_append_bytes .nil pass0 (pa_cons (pe_fld (pv 0) rfl) pa_nil)))
      (pss_one (ps_ret (pe_meth0 (pv 1) T.cl_BitWriter T.me_BitWriter_byte_list (ok_BitWriter_byte_list T) (hr.mono (by decide)) T.b_BitWriter_byte_list .nil pass0))))))))))))), ?_⟩
  obtain ⟨h1, h2, h3, h4, h5, h6, h7, h8, h9, h10⟩ := id ok
  refine q_mkw fun o L H1 ho hL e1 hW => ?_
  have fld : ∀ {H' : Hp} {f : Str} {v : V}, NoAttr K T.C_StreamInfo f → Ex H H' → (siF r q).lookup f = some v → Ev (tFld K (tVar 0) f) [some (.ref a), some (.ref o)] H' v := fun hn e hf => ev_fld T.cl_StreamInfo hn (ev_var rfl) (e _ _ ha) hf
  refine q_wr (v := r.b0) rfl hW (by decide) (by decide) h1 (fun e => fld T.n_StreamInfo_least_block (e1.trans e) rfl) fun H2 f2 hW => ?_
  have e2 := f2.ex0 e1 ho hL
  refine q_wr (v := r.b1) rfl hW (by decide) (by simp [bitsN_len]) h2 (fun e => fld T.n_StreamInfo_greatest_block (e2.trans e) rfl) fun H3 f3 hW => ?_
  have e3 := f3.ex0 e2 ho hL
  refine q_wr (v := r.f0) rfl hW (by decide) (by simp [bitsN_len]) h3 (fun e => fld T.n_StreamInfo_least_frame (e3.trans e) rfl) fun H4 f4 hW => ?_
  have e4 := f4.ex0 e3 ho hL
  refine q_wr (v := r.f1) rfl hW (by decide) (by simp [bitsN_len]) h4 (fun e => fld T.n_StreamInfo_greatest_frame (e4.trans e) rfl) fun H5 f5 hW => ?_
  have e5 := f5.ex0 e4 ho hL
  refine q_wr (v := r.rate) rfl hW (by decide) (by simp [bitsN_len]) h5 (fun e => fld T.n_StreamInfo_rate (e5.trans e) rfl) fun H6 f6 hW => ?_
  have e6 := f6.ex0 e5 ho hL
  refine q_wr (v := r.ch - 1) rfl hW (by decide) (by simp [bitsN_len]) (by show r.ch - 1 < 8; omega) (fun e => Ev.is (ev_I0 (fld (v := .int (r.ch : Int)) T.n_StreamInfo_channel_count (e6.trans e) rfl) ev_c) (congrArg V.int (by omega))) fun H7 f7 hW => ?_
  have e7 := f7.ex0 e6 ho hL
  refine q_wr (v := r.dep - 1) rfl hW (by decide) (by simp [bitsN_len]) (by show r.dep - 1 < 32; omega) (fun e => Ev.is (ev_I0 (fld (v := .int (r.dep : Int)) T.n_StreamInfo_depth (e7.trans e) rfl) ev_c) (congrArg V.int (by omega))) fun H8 f8 hW => ?_
  have e8 := f8.ex0 e7 ho hL
  refine q_wr (v := r.len) rfl hW (by decide) (by simp [bitsN_len]) h8 (fun e => fld T.n_StreamInfo_length (e8.trans e) rfl) fun H9 f9 hW => ?_
  have e9 := f9.ex0 e8 ho hL
  have hms : [] ++ bitsN 16 r.b0 ++ bitsN 16 r.b1 ++ bitsN 24 r.f0 ++ bitsN 24 r.f1 ++ bitsN 20 r.rate ++ bitsN 3 (r.ch - 1) ++ bitsN 5 (r.dep - 1) ++ bitsN 36 r.len = bitsN 144 (numS r) := by
    rw [List.nil_append, ← bitsN_cat (n := 16) (w := 16) (h := r.b0) h2, ← bitsN_cat (n := 32) (w := 24) h3, ← bitsN_cat (n := 56) (w := 24) h4, ← bitsN_cat (n := 80) (w := 20) h5, ← bitsN_cat (n := 100) (w := 3) (show r.ch - 1 < 2 ^ 3 by omega), ← bitsN_cat (n := 103) (w := 5) (show r.dep - 1 < 2 ^ 5 by omega), ← bitsN_cat (n := 108) (w := 36) h8]
    rfl
  rw [hms] at hW
  obtain ⟨dy, ws, hd, n, haw, _⟩ := hW.len
  have hqL : q ≠ L := by rintro rfl; rw [hL] at hq; cases hq
  refine q_dropM (vs := [.ref q]) (ev_var rfl) haw rfl (ea_cons (fld T.n_StreamInfo_digest e9 rfl) ea_nil) fun Ha ea => ⟨o, L, q, bitsN 144 (numS r), r.dg, rfl, hW.ex ea, (e9.trans ea) _ _ hq, hqL, h10, by rw [bitsN_len]; omega, fun Hb fb hWb => ?_⟩
  have eb := fb.ex0 (e9.trans ea) ho hL
  have hfl : (sB r).flatMap bits8 = bitsN 144 (numS r) ++ r.dg.flatMap bits8 := by
    have e144 : (2 : Nat) ^ (8 * 18) = 22300745198530623141535718272648361505980416 := by decide
    have hN : numB (bigB (numS r) 18) = numS r := by
      rw [numB_val]
      exact valB_bigB (by rw [e144]; exact numS_lt ok)
    have hb := (numB_bits (bigB (numS r) 18) (bigB_lt _ _) 18 (by rw [bigB_len]; exact Nat.le_refl _)).1
    rw [List.take_of_length_le (by rw [bigB_len]; exact Nat.le_refl _), hN] at hb
    unfold sB
    rw [List.flatMap_append, ← hb]
  have hpad : padN (bitsN 144 (numS r) ++ r.dg.flatMap bits8).length = 0 := by
    rw [List.length_append, bitsN_len, bits_flat_len, h9]
    rfl
  exact s_retL (er_list (us := sB r) (ev_var rfl) hWb (by rw [List.length_append, bitsN_len, bits_flat_len, h9]; decide) (by rw [hpad, hfl]; simp) (sB_lt ok)) fun p Hc hp ec gc => k p Hc (fresh_back eb hp) (eb.trans ec) gc
/-! ### fields told, sizes, == -/
theorem SiAt.mono {C a : Addr} {H H' : Hp} {r : SI} (h : SiAt C H a r) (e : Ex H H') : SiAt C H' a r := by
  obtain ⟨dx, q, h1, h2⟩ := h
  exact ⟨dx, q, e _ _ h1, e _ _ h2⟩
def sp_fixed (C : Addr) : Sp := fun vs H Q _ => ∃ (a : Addr) (r : SI), vs = [.ref a] ∧ SiAt C H a r ∧ RetV (.bl (decide (r.b0 = r.b1))) H Q
theorem ok_StreamInfo_fixed_size (T : TX K mg) : FnOk P w K mg base CX0 1 T.a_StreamInfo_fixed_size T.d_StreamInfo_fixed_size ["self"] (sp_fixed T.C_StreamInfo) := by
  refine T.F_StreamInfo_fixed_size.ok sc_StreamInfo_fixed_size (fun vs H Q E h => by obtain ⟨a, r, rfl, _⟩ := h; rfl) (fun cdv A outer s H vs Q E hr h => ?_)
  obtain ⟨a, r, rfl, ⟨dx, q, ha, hq⟩, k⟩ := h
  refine ⟨_, (pss_one (ps_ret (pe_cmpR op_eq (pe_fld (pv 0) rfl) (pe_fld (pv 0) rfl) (nomark _)))), ?_⟩
  exact s_ret (Ev.is (ev_eq (ev_fld T.cl_StreamInfo T.n_StreamInfo_least_block (v := .int (r.b0 : Int)) (ev_var rfl) ha rfl) (ev_fld T.cl_StreamInfo T.n_StreamInfo_greatest_block (v := .int (r.b1 : Int)) (ev_var rfl) ha rfl) rfl) (congrArg V.bl (by rw [decide_eq_decide]; exact ⟨fun h => by have := V.int.inj h; omega, fun h => by rw [h]⟩))) fun H1 e1 => k H1 e1
theorem siD_shaped (r : SI) : SeqAt.shaped (siD r) = true := by
  unfold SeqAt.shaped siD
  have h1 := canLay_ints (cs r.dg)
  have h2 := depth_ints (cs r.dg)
  rw [Bool.and_eq_true, decide_eq_true_iff]
  refine ⟨by simp only [PyData.canLay0, PyData.canLayAll0, h1]; rfl, ?_⟩
  simp only [PyData.depth, PyData.depthAll]
  omega
theorem ed_flds {C a : Addr} {σ : L2.St} {H : Hp} {to : TE} {E : XK} {r : SI} (h : Ev to σ H (.ref a)) (hx : SiAt C H a r) : EvD K (tMeth C "fields" (sp_sfields K C) [] E to tNil) σ H (siD r) := fun H1 e Q q =>
  h H1 e _ fun H2 e2 => by
    obtain ⟨dx, d, ha, hd⟩ := hx.mono (e.trans e2)
    exact ⟨a, dx, _, rfl, ha, rfl, a, r, rfl, hx.mono (e.trans e2), fun t p H3 ht hp e3 gt gp => q _ H3 (e2.trans e3) (siV_d gt gp)⟩
def sp_sieq (K : PySem.W.Frag) (C : Addr) : Sp := fun vs H Q _ => ∃ (a : Addr) (y : V) (r : SI) (b : Bool), vs = [.ref a, y] ∧ SiAt C H a r ∧ ((∃ p r2, y = .ref p ∧ SiAt C H p r2 ∧ b = PyData.eqv (siD r) (siD r2)) ∨ (∃ t, (∀ H1, Ex H H1 → TyX K H1 y t) ∧ PySem.W.kitOne K t (.ref C) = some false ∧ b = false)) ∧ RetV (.bl b) H Q
theorem ok_StreamInfo_eq (T : TX K mg) : FnOk P w K mg base CX0 2 T.a_StreamInfo_eq T.d_StreamInfo_eq ["self", "other"] (sp_sieq K T.C_StreamInfo) := by
  refine T.F_StreamInfo_eq.ok sc_StreamInfo_eq (fun vs H Q E h => by obtain ⟨a, y, r, b, rfl, _⟩ := h; rfl) (fun cdv A outer s H vs Q E hr h => ?_)
  obtain ⟨a, y, r, b, rfl, ha, hy, k⟩ := h
  refine ⟨_, (pss_one (ps_ret (pe_and (pe_callB (r := rIsi K) call_isi (by rfl) T.m_isinstance PyProof.Rows.boot_isinstance (pa_cons (pv 1) (pa_cons (pe_glob (v := V.ref T.C_StreamInfo) (by rfl) T.g_StreamInfo rfl) pa_nil))) (pe_one (pe_cmpR (op_eqD (hu64 hr)) (pe_meth0 (pv 0) T.cl_StreamInfo T.me_StreamInfo_fields (ok_StreamInfo_fields T) (hr.mono (by decide)) T.b_StreamInfo_fields .nil pass0) (pe_meth0 (pv 1) T.cl_StreamInfo T.me_StreamInfo_fields (ok_StreamInfo_fields T) (hr.mono (by decide)) T.b_StreamInfo_fields .nil pass0) (nomark _)))))), ?_⟩
  rcases hy with ⟨p, r2, rfl, hp, rfl⟩ | ⟨t, ht, hk, rfl⟩
  · obtain ⟨dx, q, h1, h2⟩ := id hp
    exact s_ret (v := .bl (PyData.eqv (siD r) (siD r2))) (Ev.is (ev_andV (a := true) (ev_isiO (C := T.C_StreamInfo) (t := .ref T.C_StreamInfo) (ev_var rfl) (T.ty_StreamInfo.ins T.cl_StreamInfo h1) T.ki_StreamInfo_StreamInfo) fun _ => ev_eqDv (ed_flds (ev_var rfl) ha) (ed_flds (ev_var rfl) hp) (siD_shaped r) (siD_shaped r2)) (by rw [Bool.true_and])) fun H1 e1 => k H1 e1
  · exact s_ret (v := .bl false) (Ev.is (ev_andV (a := false) (b := false) (ev_isiO (C := T.C_StreamInfo) (ev_var rfl) ht hk) fun h => by cases h) rfl) fun H1 e1 => k H1 e1
/-! ### the law's rows -/
def RwAt (H : Hp) (p q : Addr) (r : SI) : Prop := H p = some (.tup (siV r q)) ∧ H q = some (.lst ((cs r.dg).map V.int))
theorem RwAt.mono {p q : Addr} {H H' : Hp} {r : SI} (h : RwAt H p q r) (e : Ex H H') : RwAt H' p q r := ⟨e _ _ h.1, e _ _ h.2⟩
theorem RwAt.fr {s p q : Addr} {H H' : Hp} {r : SI} (h : RwAt H p q r) (st : StAt H s) (f : Fr s H H') (hq : q ≠ s) : RwAt H' p q r := ⟨f.1 _ _ (by rintro rfl; obtain ⟨k, c, g⟩ := st; have h1 := h.1; rw [g] at h1; cases h1) h.1, f.l hq h.2⟩
def sp_lfields (K : PySem.W.Frag) : Sp := fun vs H Q _ => ∃ (s a : Addr) (ns : List Int), vs = [.ref s, .ref a] ∧ DrS K H s a ns ∧ ∀ p q r H', Fr s H H' → RwAt H' p q r → q ≠ s → okS r → faultS 34 r = none → Q (.ref p) H'
theorem ok_law_fields (T : TX K mg) : FnOk P w K mg base CX0 4 T.a_law_fields T.d_law_fields ["state", "script"] (sp_lfields K) := by
  refine T.F_law_fields.ok sc_law_fields (fun vs H Q E h => by obtain ⟨s, a, ns, rfl, _⟩ := h; rfl) (fun cdv A outer s0 H vs Q E hr h => ?_)
  obtain ⟨s, a, ns, rfl, hd, k⟩ := h
  refine ⟨_, (pss_cons (ps_set (i := 2) sc_law_fields.nd rfl (Or.inl rfl) (pe_op op_add pe_int (pe_call (ok_law_wide T) (hr.mono (by decide)) (by rfl) T.g_law_wide T.F_law_wide.kp T.b_law_wide .nil pass0 (pa_cons (pv 0) (pa_cons (pv 1) (pa_cons pe_int pa_nil))))))
      (pss_cons (ps_set (i := 3) sc_law_fields.nd rfl (Or.inl rfl) (pv 2))
      (pss_cut (ps_if (pt_cmpR op_eq (pe_call (ok_law_draw T) (hr.mono (by decide)) (by rfl) T.g_law_draw T.F_law_draw.kp T.b_law_draw .nil pass0 (pa_cons (pv 0) (pa_cons (pv 1) (pa_cons pe_int pa_nil)))) pe_int (nomark _)) (pss_one (ps_set (i := 3) sc_law_fields.nd rfl (Or.inl rfl) (pe_op op_add (pv 2) (pe_call (ok_law_wide T) (hr.mono (by decide)) (by rfl) T.g_law_wide T.F_law_wide.kp T.b_law_wide .nil pass0 (pa_cons (pv 0) (pa_cons (pv 1) (pa_cons (pe_op op_sub pe_int (pv 2)) pa_nil))))))) pss_nil)
      (pss_cons (ps_set (i := 4) sc_law_fields.nd rfl (Or.inl rfl) (pe_call (ok_law_wide T) (hr.mono (by decide)) (by rfl) T.g_law_wide T.F_law_wide.kp T.b_law_wide .nil pass0 (pa_cons (pv 0) (pa_cons (pv 1) (pa_cons pe_int pa_nil)))))
      (pss_cons (ps_set (i := 5) sc_law_fields.nd rfl (Or.inl rfl) (pe_op op_add (pv 4) (pe_call (ok_law_wide T) (hr.mono (by decide)) (by rfl) T.g_law_wide T.F_law_wide.kp T.b_law_wide .nil pass0 (pa_cons (pv 0) (pa_cons (pv 1) (pa_cons (pe_op op_sub pe_int (pv 4)) pa_nil))))))
      (pss_cut (ps_if (pt_cmpR op_eq (pe_call (ok_law_draw T) (hr.mono (by decide)) (by rfl) T.g_law_draw T.F_law_draw.kp T.b_law_draw .nil pass0 (pa_cons (pv 0) (pa_cons (pv 1) (pa_cons pe_int pa_nil)))) pe_int (nomark _)) (pss_one (ps_set (i := 5) sc_law_fields.nd rfl (Or.inl rfl) pe_int)) pss_nil)
      (pss_cons (ps_set (i := 6) sc_law_fields.nd rfl (Or.inl rfl) (pe_call (ok_law_wide T) (hr.mono (by decide)) (by rfl) T.g_law_wide T.F_law_wide.kp T.b_law_wide .nil pass0 (pa_cons (pv 0) (pa_cons (pv 1) (pa_cons pe_int pa_nil)))))
      (pss_cons (ps_set (i := 7) sc_law_fields.nd rfl (Or.inl rfl) (pe_op op_add pe_int (pe_call (ok_law_draw T) (hr.mono (by decide)) (by rfl) T.g_law_draw T.F_law_draw.kp T.b_law_draw .nil pass0 (pa_cons (pv 0) (pa_cons (pv 1) (pa_cons pe_int pa_nil))))))
      (pss_cons (ps_set (i := 8) sc_law_fields.nd rfl (Or.inl rfl) (pe_op op_add pe_int (pe_call (ok_law_draw T) (hr.mono (by decide)) (by rfl) T.g_law_draw T.F_law_draw.kp T.b_law_draw .nil pass0 (pa_cons (pv 0) (pa_cons (pv 1) (pa_cons pe_int pa_nil))))))
      (pss_cons (ps_set (i := 9) sc_law_fields.nd rfl (Or.inl rfl) (pe_call (ok_law_wide T) (hr.mono (by decide)) (by rfl) T.g_law_wide T.F_law_wide.kp T.b_law_wide .nil pass0 (pa_cons (pv 0) (pa_cons (pv 1) (pa_cons pe_int pa_nil)))))
      (pss_cons (ps_set (i := 10) sc_law_fields.nd rfl (Or.inl rfl) (pe_call (ok_law_junk T) (hr.mono (by decide)) (by rfl) T.g_law_junk T.F_law_junk.kp T.b_law_junk .nil pass0 (pa_cons (pv 0) (pa_cons (pv 1) (pa_cons pe_int pa_nil)))))
      (pss_one (ps_ret (pe_tup (pa_cons (pv 2) (pa_cons (pv 3) (pa_cons (pv 4) (pa_cons (pv 5) (pa_cons (pv 6) (pa_cons (pv 7) (pa_cons (pv 8) (pa_cons (pv 9) (pa_cons (pv 10) pa_nil))))))))))))))))))))))), ?_⟩
  refine qw_asg (wi_op (wi_ev hd.1 ev_c) fun H1 f1 => wi_draw (hd.fr f1) rfl rfl ev_c (by decide) (by decide)) fun z H1 f1 hz => ?_
  obtain ⟨_, _, rfl, ⟨b0', rfl, hb0⟩, rfl⟩ := hz
  obtain ⟨b0, hb⟩ : ∃ b0 : Nat, (16 : Int) + (b0' : Int) = (b0 : Int) := ⟨16 + b0', by omega⟩
  have hb02 : 16 ≤ b0 ∧ b0 < 65536 := by omega
  rw [hb]
  refine q_asg (ev_var rfl) fun H2 e2 => ?_
  have f2 := f1.tex e2
  refine q_cut (M := fun σ' H' => ∃ b1 : Nat, σ' = [some (.ref s), some (.ref a), some (.int (b0 : Int)), some (.int (b1 : Int)), none, none, none, none, none, none, none] ∧ Fr s H H' ∧ b0 ≤ b1 ∧ b1 < 65536) ?_ ?_
  · refine sw_when (wt_eq (wi_draw (hd.fr f2) rfl rfl ev_c (by decide) (by decide)) fun H3 f3 => wi_ev (f2.trans f3).2 ev_c) (fun _ H3 f3 => ?_) fun _ H3 f3 => ⟨b0, rfl, f2.trans f3, Nat.le_refl _, hb02.2⟩
    refine sw_asg (wi_op (wi_ev f3.2 (ev_var rfl)) fun H4 f4 => wi_draw (hd.fr (f2.trans (f3.trans f4))) rfl rfl (ev_I0 ev_c (ev_var rfl)) (by omega) (by omega)) fun z H4 f4 hz => ?_
    obtain ⟨_, _, rfl, ⟨d, rfl, hdn⟩, rfl⟩ := hz
    exact ⟨b0 + d, rfl, f2.trans (f3.trans f4), by omega, by omega⟩
  rintro σ' H3 ⟨b1, rfl, f3, hb1, hb1'⟩
  clear f1 f2 e2
  refine qw_asg (wi_draw (hd.fr f3) rfl rfl ev_c (by decide) (by decide)) fun z H4 f4 hz => ?_
  obtain ⟨f0, rfl, hf0⟩ := hz
  have g4 := f3.trans f4
  refine qw_asg (wi_op (wi_ev f4.2 (ev_var rfl)) fun H5 f5 => wi_draw (hd.fr (g4.trans f5)) rfl rfl (ev_I0 ev_c (ev_var rfl)) (by omega) (by omega)) fun z H5 f5 hz => ?_
  obtain ⟨_, _, rfl, ⟨d, rfl, hdn⟩, rfl⟩ := hz
  have g5 := g4.trans f5
  refine q_cut (M := fun σ' H' => ∃ ff : Nat, σ' = [some (.ref s), some (.ref a), some (.int (b0 : Int)), some (.int (b1 : Int)), some (.int (f0 : Int)), some (.int (ff : Int)), none, none, none, none, none] ∧ Fr s H H' ∧ (f0 ≤ ff ∨ ff = 0) ∧ ff < 16777216) ?_ ?_
  · refine sw_when (wt_eq (wi_draw (hd.fr g5) rfl rfl ev_c (by decide) (by decide)) fun H6 f6 => wi_ev (g5.trans f6).2 ev_c) (fun _ H6 f6 => ?_) fun _ H6 f6 => ⟨f0 + d, rfl, g5.trans f6, .inl (by omega), by omega⟩
    exact s_asg ev_c fun H7 e7 => ⟨0, rfl, (g5.trans f6).tex e7, .inr rfl, by decide⟩
  rintro σ' H6 ⟨ff, rfl, f6, hff, hff2⟩
  clear f3 f4 f5 g4 g5 hdn
  refine qw_asg (wi_draw (hd.fr f6) rfl rfl ev_c (by decide) (by decide)) fun z H7 f7 hz => ?_
  obtain ⟨rt, rfl, hrt⟩ := hz
  have g7 := f6.trans f7
  refine qw_asg (wi_op (wi_ev f7.2 ev_c) fun H8 f8 => wi_draw (hd.fr (g7.trans f8)) rfl rfl ev_c (by decide) (by decide)) fun z H8 f8 hz => ?_
  obtain ⟨_, _, rfl, ⟨c, rfl, hc⟩, rfl⟩ := hz
  have g8 := g7.trans f8
  refine qw_asg (wi_op (wi_ev f8.2 ev_c) fun H9 f9 => wi_draw (hd.fr (g8.trans f9)) rfl rfl ev_c (by decide) (by decide)) fun z H9 f9 hz => ?_
  obtain ⟨_, _, rfl, ⟨dp, rfl, hdp⟩, rfl⟩ := hz
  have g9 := g8.trans f9
  refine qw_asg (wi_draw (hd.fr g9) rfl rfl ev_c (by decide) (by decide)) fun z Ha fa hz => ?_
  obtain ⟨ln, rfl, hln⟩ := hz
  have ga := g9.trans fa
  refine qw_asgL (wl_junk (hd.fr ga) rfl rfl (wi_ev ga.2 ev_c) (fun z hz => by rw [hz]; decide)) fun q xs Hb hq fb gq hxs => ?_
  obtain ⟨dg, rfl, -, hdl, hdb⟩ := hxs
  have gb := ga.trans fb
  have hqs := ne_st ga.2 hq
  refine s_retU (xs := siV ⟨b0, b1, f0, ff, rt, 1 + c, 4 + dp, ln, dg⟩ q) (eu_tup (ea_cons (ev_var rfl) (ea_cons (ev_var rfl) (ea_cons (ev_var rfl) (ea_cons (ev_var rfl) (ea_cons (ev_var rfl) (ea_cons (Ev.is (ev_var rfl) (congrArg V.int (by show (1 : Int) + (c : Int) = ((1 + c : Nat) : Int); omega))) (ea_cons (Ev.is (ev_var rfl) (congrArg V.int (by show (4 : Int) + (dp : Int) = ((4 + dp : Nat) : Int); omega))) (ea_cons (ev_var rfl) (ea_cons (ev_var rfl) ea_nil))))))))) (Nat.le_of_ble_eq_true rfl)) fun p Hc hp ec gp => ?_
  refine k p q ⟨b0, b1, f0, ff, rt, 1 + c, 4 + dp, ln, dg⟩ Hc (gb.tex ec) ⟨gp, ec _ _ gq⟩ hqs ⟨hb02.2, hb1', ?_, hff2, ?_, ?_, ?_, ?_, ?_, hdb⟩ ?_
  · show f0 < 16777216
    omega
  · show rt < 1048576
    omega
  · show 1 ≤ 1 + c ∧ 1 + c ≤ 8
    omega
  · show 1 ≤ 4 + dp ∧ 4 + dp ≤ 32
    omega
  · show ln < 68719476736
    omega
  · show dg.length = 16
    omega
  · unfold faultS
    dsimp only
    rw [if_neg (by decide), if_neg (by omega), if_neg (by omega), if_neg (by omega), if_neg (by omega), if_neg (by omega)]
def SiN (C : Addr) (H H' : Hp) (a : Addr) (r : SI) : Prop := ∃ dx q, H' a = some (.ins C dx (siF r q)) ∧ H' q = some (.lst ((cs r.dg).map V.int)) ∧ H q = none
theorem SiN.at {C a : Addr} {H H' : Hp} {r : SI} (h : SiN C H H' a r) : SiAt C H' a r := by obtain ⟨dx, q, h1, h2, _⟩ := h; exact ⟨dx, q, h1, h2⟩
def sp_lmade (C : Addr) : Sp := fun vs H Q _ => ∃ (p q : Addr) (r : SI), vs = [.ref p] ∧ RwAt H p q r ∧ ∀ a H', H a = none → Ex H H' → SiN C H H' a r → Q (.ref a) H'
theorem ok_law_made (T : TX K mg) : FnOk P w K mg base CX0 3 T.a_law_made T.d_law_made ["row"] (sp_lmade T.C_StreamInfo) := by
  refine T.F_law_made.ok sc_law_made (fun vs H Q E h => by obtain ⟨p, q, r, rfl, _⟩ := h; rfl) (fun cdv A outer s H vs Q E hr h => ?_)
  obtain ⟨p, q, r, rfl, hp, k⟩ := h
  refine ⟨_, (pss_one (ps_ret (pe_make T.M_StreamInfo (ok_StreamInfo_init T) (hr.mono (by decide)) (by rfl) T.g_StreamInfo T.b_StreamInfo_init .nil pass0 (pa_cons (pe_ix (r := rIxT K) ix_tup (pv 0) pe_int (fun _ _ => rfl)) (pa_cons (pe_ix (r := rIxT K) ix_tup (pv 0) pe_int (fun _ _ => rfl)) (pa_cons (pe_ix (r := rIxT K) ix_tup (pv 0) pe_int (fun _ _ => rfl)) (pa_cons (pe_ix (r := rIxT K) ix_tup (pv 0) pe_int (fun _ _ => rfl)) (pa_cons (pe_ix (r := rIxT K) ix_tup (pv 0) pe_int (fun _ _ => rfl)) (pa_cons (pe_ix (r := rIxT K) ix_tup (pv 0) pe_int (fun _ _ => rfl)) (pa_cons (pe_ix (r := rIxT K) ix_tup (pv 0) pe_int (fun _ _ => rfl)) (pa_cons (pe_ix (r := rIxT K) ix_tup (pv 0) pe_int (fun _ _ => rfl)) (pa_cons (pe_ix (r := rIxT K) ix_tup (pv 0) pe_int (fun _ _ => rfl)) pa_nil)))))))))))), ?_⟩
  have at_ : ∀ (j : Nat) (v : V), (siV r q)[j]? = some v → Ev (tOp (rIxT K) (tVar 0) (tC (.int (j : Int)))) (start ["row"] [.ref p]) H v := fun j v hv => ev_atT (ev_var rfl) (st_of hp.1) ev_c (at_of (j := j) rfl hv)
  exact s_retN (R := fun a H' => SiN T.C_StreamInfo H H' a r) (en_makeF (vs := siV r q) (ea_cons (at_ 0 _ rfl) (ea_cons (at_ 1 _ rfl) (ea_cons (at_ 2 _ rfl) (ea_cons (at_ 3 _ rfl) (ea_cons (at_ 4 _ rfl) (ea_cons (at_ 5 _ rfl) (ea_cons (at_ 6 _ rfl) (ea_cons (at_ 7 _ rfl) (ea_cons (at_ 8 _ rfl) ea_nil))))))))) fun a dx G Q' E' eG hn hG k' => ⟨a, dx, q, r, rfl, hG, eG _ _ hp.2, fun H' d hF hA hd hl => k' H' hF ⟨dx, d, hA, hl, fresh_back eG hd⟩⟩) fun a H2 ha e2 h2 => k a H2 ha e2 h2
def sp_lsame (K : PySem.W.Frag) : Sp := fun vs H Q _ => ∃ (p q p' q' : Addr) (r : SI), vs = [.ref p, .ref p'] ∧ RwAt H p q r ∧ RwAt H p' q' r ∧ okS r ∧ RetV (.bl true) H Q
theorem ok_law_same (T : TX K mg) : FnOk P w K mg base CX0 3 T.a_law_same T.d_law_same ["actual", "row"] (sp_lsame K) := by
  refine T.F_law_same.ok sc_law_same (fun vs H Q E h => by obtain ⟨p, q, p', q', r, rfl, _⟩ := h; rfl) (fun cdv A outer s H vs Q E hr h => ?_)
  obtain ⟨p, q, p', q', r, rfl, hp, hp', ok, k⟩ := h
  refine ⟨_, (pss_cons (ps_if (PW.pt (pw_or (pt_not (pt_val (pe_callB (r := rIsi K) call_isi (by rfl) T.m_isinstance PyProof.Rows.boot_isinstance (pa_cons (pv 0) (pa_cons (pe_bltn (v := V.ty "tuple") (by rfl) T.m_tuple PyProof.Rows.boot_tuple rfl) pa_nil))))) (pw_or (pt_cmpR op_ne (pe_callB (r := rLenS K) call_len_seq (by rfl) T.m_len PySem.boot_len (pa_cons (pv 0) pa_nil)) pe_int (nomark _)) (pw_or1 (pt_not (pt_val (pe_call (ok_law_is_bytes T) (hr.mono (by decide)) (by rfl) T.g_law_is_bytes T.F_law_is_bytes.kp T.b_law_is_bytes .nil pass0 (pa_cons (pe_ix (r := rIxT K) ix_tup (pv 0) pe_int (fun _ _ => rfl)) pa_nil)))))))) (pss_one (ps_ret pe_bl)) pss_nil)
      (pss_one (ps_ret (pe_and (pe_callB (r := rAll K) (cr_all rfl) (by rfl) T.m_all PyProof.Rows.boot_all (pa_cons (pe_lc (own := [("k", 2)]) (g := gName 2) (tt := tYes) rfl sc_law_same.nd (pi_range1 (by rfl) T.m_range (pa_cons pe_int pa_nil)) (blkOk_by (N := ["actual", "row", "k"]) (sc := defScope s_law_same) (by decide +kernel)) (fun _ _ _ _ _ => pg_name (i := 2) sc_law_same.nd rfl (Or.inl rfl)) (fun _ _ _ _ _ => pts_nil) (fun _ _ _ _ _ => (pe_call (ok_law_is_integer T) (hr.mono (by decide)) (by rfl) T.g_law_is_integer T.F_law_is_integer.kp T.b_law_is_integer .nil pass0 (pa_cons (pe_ix (r := rIxT K) ix_tup (pv 0) (pv 2) (fun _ _ => rfl)) pa_nil)))) pa_nil)) (pe_one (pe_cmpR (op_eqD (hu64 hr)) (pv 0) (pv 1) (nomark _))))))), ?_⟩
  have hdl := ok.2.2.2.2.2.2.2.2.1
  refine q_when (b := false) (et_is (et_or (a := false) (et_is (et_not (et_B (ev_isiT (K := K) (ev_var rfl) hp.1))) rfl) fun _ => et_or (a := false) (b := false) (et_is (et_test (ev_ne (Ev.is (y := .int 9) (ev_lenT (K := K) (ev_var rfl) hp.1) rfl) ev_c rfl)) rfl) fun _ => et_is (et_not (et_B (ev_isbytes (ds := r.dg) (Ev.r (ev_atT (ev_var rfl) (st_of hp.1) ev_c (at_of (j := 8) rfl rfl)) hp.2) (by omega) ok.2.2.2.2.2.2.2.2.2))) rfl) rfl) (fun hb => by cases hb) fun _ H1 e1 => ?_
  have h1 := hp.mono e1
  have h1' := hp'.mono e1
  refine s_ret (v := .bl true) (ev_is (ev_andV (a := true) (ev_all (K := K) (bs := List.replicate 8 true) (EvR.s (EvL.r (el_lcR ((List.replicate 8 true).map V.bl) (ea_cons ev_c ea_nil) (by decide) rfl (by decide) (fun _ => rfl) fun i H2 e2 hi => ?_))) rfl) fun _ => ev_eqDD (K := K) (d := siD r) (EvD.of (ev_var rfl) (siV_d h1.1 h1.2)) (EvD.of (ev_var rfl) (siV_d h1'.1 h1'.2)) (siD_shaped r)) rfl) fun H2 e2 => k H2 (e1.trans e2)
  have hi8 : i < 8 := hi
  obtain ⟨n, hn⟩ : ∃ n : Int, (siV r q)[i]? = some (.int n) := by
    match i, hi8 with
    | 0, _ => exact ⟨_, rfl⟩
    | 1, _ => exact ⟨_, rfl⟩
    | 2, _ => exact ⟨_, rfl⟩
    | 3, _ => exact ⟨_, rfl⟩
    | 4, _ => exact ⟨_, rfl⟩
    | 5, _ => exact ⟨_, rfl⟩
    | 6, _ => exact ⟨_, rfl⟩
    | 7, _ => exact ⟨_, rfl⟩
  exact ⟨.bl true, by rw [List.getElem?_map, List.getElem?_replicate, if_pos hi8]; rfl, ev_isint (n := n) (ev_atT (ev_var rfl) (st_of (e2 _ _ h1.1)) (ev_var rfl) (at_of rfl hn))⟩
/-! ### the law -/
section
variable {σ : L2.St} {H : Hp} {ta tb te : TE} {xs ys : List V} {a : Addr}
theorem EvU.is (h : EvU te σ H xs) (e : xs = ys) : EvU te σ H ys := e ▸ h
theorem eu_slA {tl th : TO} {lo hi : Option Int} (h : Ev te σ H (.ref a)) (hT : H a = some (.tup xs)) (h1 : EvO tl σ H lo) (h2 : EvO th σ H hi) (hw : ¬ (HT.sIx xs.length 0 lo = 0 ∧ HT.sIx xs.length xs.length hi = xs.length)) : EvU (tSl (rSlA K) te tl th) σ H (cutV xs lo hi) := fun H1 e Q q =>
  h H1 e _ fun H2 e2 => h1 H2 (e.trans e2) _ fun H3 e3 => h2 H3 ((e.trans e2).trans e3) _ fun H4 e4 => ⟨a, xs, rfl, st_of ((((e.trans e2).trans e3).trans e4) _ _ hT), fun z => absurd z hw, fun _ p hp => q p _ (fresh_back ((e2.trans e3).trans e4) hp) (((e2.trans e3).trans e4).trans (Ex.new hp)) upd_same⟩
theorem eu_catA (ha : EvU ta σ H xs) (hb : EvU tb σ H ys) (hx : xs ≠ []) (hy : ys ≠ []) (hl : xs.length + ys.length ≤ 100000) : EvU (tOp (rCatA K) ta tb) σ H (xs ++ ys) := fun H1 e Q q =>
  ha H1 e _ fun p H2 hp e2 g2 => hb H2 (e.trans e2) _ fun r H3 hr e3 g3 => ⟨p, r, xs, ys, rfl, rfl, st_of (e3 _ _ g2), st_of g3, sz_of hl, fun z => absurd z hx, fun _ z => absurd z hy, fun _ _ t ht => q t _ (fresh_back (e2.trans e3) ht) ((e2.trans e3).trans (Ex.new ht)) upd_same⟩
theorem eu_catA0 (ha : EvU ta σ H xs) (hb : EvU tb σ H []) (hx : xs ≠ []) (hl : xs.length ≤ 100000) : EvU (tOp (rCatA K) ta tb) σ H xs := fun H1 e Q q =>
  ha H1 e _ fun p H2 hp e2 g2 => hb H2 (e.trans e2) _ fun r H3 hr e3 g3 => ⟨p, r, xs, [], rfl, rfl, st_of (e3 _ _ g2), st_of g3, sz_of hl, fun z => absurd z hx, fun _ _ => q p H3 hp (e2.trans e3) (e3 _ _ g2), fun _ z => absurd rfl z⟩
theorem eu_catV (ha : Ev ta σ H (.ref a)) (hT : H a = some (.tup xs)) (hb : EvU tb σ H ys) (hx : xs ≠ []) (hy : ys ≠ []) (hl : xs.length + ys.length ≤ 100000) : EvU (tOp (rCatA K) ta tb) σ H (xs ++ ys) := fun H1 e Q q =>
  ha H1 e _ fun H2 e2 => hb H2 (e.trans e2) _ fun r H3 hr e3 g3 => ⟨a, r, xs, ys, rfl, rfl, st_of ((e.trans (e2.trans e3)) _ _ hT), st_of g3, sz_of hl, fun z => absurd z hx, fun _ z => absurd z hy, fun _ _ t ht => q t _ (fresh_back (e2.trans e3) ht) ((e2.trans e3).trans (Ex.new ht)) upd_same⟩
def RwX (r : SI) : V → Hp → Prop := fun v G => ∃ t d, v = .ref t ∧ RwAt G t d r
theorem up_rw {r : SI} : Up (RwX r) := fun v H H' e ⟨t, d, h1, h2⟩ => ⟨t, d, h1, h2.mono e⟩
theorem ex_flds {C : Addr} {E : XK} {r : SI} {to : TE} (h : Ev to σ H (.ref a)) (hx : SiAt C H a r) : EvX (tMeth C "fields" (sp_sfields K C) [] E to tNil) σ H (RwX r) := fun H1 e Q q =>
  h H1 e _ fun H2 e2 => by
    obtain ⟨dx, d, ha, hd⟩ := hx.mono (e.trans e2)
    exact ⟨a, dx, _, rfl, ha, rfl, a, r, rfl, hx.mono (e.trans e2), fun t p H3 ht hp e3 gt gp => q _ H3 (e2.trans e3) ⟨t, p, rfl, gt, gp⟩⟩
theorem sameF {C : Addr} {E E' : XK} {r : SI} {i j : Nat} {p q : Addr} (h : σ[i]? = some (some (.ref a))) (hx : SiAt C H a r) (hj : σ[j]? = some (some (.ref p))) (hp : RwAt H p q r) (ok : okS r) : Ev (tCall (sp_lsame K) [] E (tCons (tMeth C "fields" (sp_sfields K C) [] E' (tVar i) tNil) (tCons (tVar j) tNil))) σ H (.bl true) :=
  EvX.val (ex_call2 (ex_flds (ev_var h) hx) up_rw (S2 := fun v _ => v = .ref p) (Ev.x (ev_var hj) fun _ _ => rfl) fun v w G Q E e ⟨t, d, hv, h1⟩ hw k => ⟨t, d, p, q, r, by rw [hv, hw]; rfl, h1, hp.mono e, ok, fun H' e' => k _ H' e' rfl⟩)
end
def SiX (C : Addr) (r : SI) : V → Hp → Prop := fun v G => ∃ a, v = .ref a ∧ SiAt C G a r
theorem up_si {C : Addr} {r : SI} : Up (SiX C r) := fun v H H' e ⟨a, h1, h2⟩ => ⟨a, h1, h2.mono e⟩
theorem eqS (T : TX K mg) {σ : L2.St} {H : Hp} {ta tb : TE} {E : XK} {r r2 : SI} (ha : EvX ta σ H (SiX T.C_StreamInfo r)) (hb : EvX tb σ H (SiX T.C_StreamInfo r2)) : Ev (tOp (rEqO T.C_StreamInfo (sp_sieq K T.C_StreamInfo) E K) ta tb) σ H (.bl (PyData.eqv (siD r) (siD r2))) :=
  ev_eqX ha up_si hb fun x y G e ⟨a, hx, h1⟩ ⟨b, hy, h2⟩ => by
    obtain ⟨dx, q, g1, _⟩ := id h1
    obtain ⟨dy, q2, g2, _⟩ := id h2
    refine ⟨a, dx, _, .ref T.C_StreamInfo, hx, g1, ?_, T.nf_StreamInfo_StreamInfo, fun G1 e1 Q q E => ⟨a, y, r, _, rfl, h1.mono e1, .inl ⟨b, r2, hy, h2.mono e1, rfl⟩, q⟩⟩
    rw [hy]
    exact T.ty_StreamInfo.ins T.cl_StreamInfo g2 G (Ex.refl _)
theorem neS (T : TX K mg) {σ : L2.St} {H : Hp} {ta tb : TE} {E : XK} {r : SI} {S2 : V → Hp → Prop} (ha : EvX ta σ H (SiX T.C_StreamInfo r)) (hb : EvX tb σ H S2) (h : ∀ y G, S2 y G → ∃ t, (∀ H1, Ex G H1 → TyX K H1 y t) ∧ PySem.W.kitOne K t (.ref T.C_StreamInfo) = some false ∧ PySem.W.notFirst K T.C_StreamInfo t = true) : Ev (tOp (rEqO T.C_StreamInfo (sp_sieq K T.C_StreamInfo) E K) ta tb) σ H (.bl false) :=
  ev_eqX ha up_si hb fun x y G e ⟨a, hx, h1⟩ h2 => by
    obtain ⟨dx, q, g1, _⟩ := id h1
    obtain ⟨t, t1, t2, t3⟩ := h y G h2
    exact ⟨a, dx, _, t, hx, g1, t1 G (Ex.refl _), t3, fun G1 e1 Q q E => ⟨a, y, r, _, rfl, h1.mono e1, .inr ⟨t, fun H1 e2 => t1 H1 (e1.trans e2), t2, rfl⟩, q⟩⟩
theorem el_lbody {σ : L2.St} {H : Hp} {E : XK} {p q : Addr} {r : SI} {j : Nat} (hj : σ[j]? = some (some (.ref p))) (hp : RwAt H p q r) (ok : okS r) : EvL (tCall sp_lbody [] E (tCons (tVar j) tNil)) σ H ((cs (sB r)).map V.int) := el_call (vs := [.ref p]) (ea_cons (ev_var hj) ea_nil) fun H5 e5 Q' q' _ => ⟨p, q, r, rfl, e5 _ _ hp.1, e5 _ _ hp.2, ok, q'⟩
theorem el_wsi {C : Addr} {σ : L2.St} {H : Hp} {E : XK} {p : Addr} {r : SI} {j : Nat} (hj : σ[j]? = some (some (.ref p))) (hp : SiAt C H p r) (ok : okS r) : EvL (tCall (sp_wsi C) [] E (tCons (tVar j) tNil)) σ H ((cs (sB r)).map V.int) := el_call (vs := [.ref p]) (ea_cons (ev_var hj) ea_nil) fun H5 e5 Q' q' _ => ⟨p, r, rfl, hp.mono e5, ok, q'⟩
def sp_law (K : PySem.W.Frag) : Sp := fun vs H Q _ => ∃ (a : Addr) (ns : List Int), vs = [.ref a] ∧ SqL K H a (ns.map V.int) ∧ ns.length ≤ 63 ∧ ∀ H', Q (.bl true) H'
theorem ok_law (T : TX K mg) : FnOk P w K mg base CX0 6 T.a_law T.d_law ["script"] (sp_law K) := by
  refine T.F_law.ok sc_law (fun vs H Q E h => by obtain ⟨a, ns, rfl, _⟩ := h; rfl) (fun cdv A outer s0 H vs Q E hr h => ?_)
  obtain ⟨a, ns, rfl, hS, hlen, k⟩ := h
  refine ⟨_, (pss_cons (ps_set (i := 1) sc_law.nd rfl (Or.inl rfl) (pe_lst (pa_cons pe_int (pa_cons pe_int pa_nil))))
      (pss_cons (ps_set (i := 2) sc_law.nd rfl (Or.inl rfl) (pe_call (ok_law_fields T) (hr.mono (by decide)) (by rfl) T.g_law_fields T.F_law_fields.kp T.b_law_fields .nil pass0 (pa_cons (pv 1) (pa_cons (pv 0) pa_nil))))
      (pss_cons (ps_set (i := 3) sc_law.nd rfl (Or.inl rfl) (pe_call (ok_law_fields T) (hr.mono (by decide)) (by rfl) T.g_law_fields T.F_law_fields.kp T.b_law_fields .nil pass0 (pa_cons (pv 1) (pa_cons (pv 0) pa_nil))))
      (pss_cut (ps_if (pt_cmpR op_eq (pe_call (ok_law_draw T) (hr.mono (by decide)) (by rfl) T.g_law_draw T.F_law_draw.kp T.b_law_draw .nil pass0 (pa_cons (pv 1) (pa_cons (pv 0) (pa_cons pe_int pa_nil)))) pe_int (nomark _)) (pss_cons (ps_set (i := 4) sc_law.nd rfl (Or.inl rfl) (pe_op op_add pe_int (pe_call (ok_law_draw T) (hr.mono (by decide)) (by rfl) T.g_law_draw T.F_law_draw.kp T.b_law_draw .nil pass0 (pa_cons (pv 1) (pa_cons (pv 0) (pa_cons pe_int pa_nil))))))
        (pss_one (ps_set (i := 3) sc_law.nd rfl (Or.inl rfl) (pe_op op_catA (pe_op op_catA (pe_slice (r := rSlA K) sl_tupA (pv 2) po_none (po_some (pv 4))) (pe_slice (r := rSlA K) sl_tupA (pv 3) (po_some (pv 4)) (po_some (pe_op op_add (pv 4) pe_int)))) (pe_slice (r := rSlA K) sl_tupA (pv 2) (po_some (pe_op op_add (pv 4) pe_int)) po_none))))) pss_nil)
      (pss_cons (ps_set (i := 5) sc_law.nd rfl (Or.inl rfl) (pe_call (ok_law_junk T) (hr.mono (by decide)) (by rfl) T.g_law_junk T.F_law_junk.kp T.b_law_junk .nil pass0 (pa_cons (pv 1) (pa_cons (pv 0) (pa_cons (pe_call (ok_law_draw T) (hr.mono (by decide)) (by rfl) T.g_law_draw T.F_law_draw.kp T.b_law_draw .nil pass0 (pa_cons (pv 1) (pa_cons (pv 0) (pa_cons pe_int pa_nil)))) pa_nil)))))
      (pss_cons (ps_set (i := 6) sc_law.nd rfl (Or.inl rfl) (pe_call (ok_law_junk T) (hr.mono (by decide)) (by rfl) T.g_law_junk T.F_law_junk.kp T.b_law_junk .nil pass0 (pa_cons (pv 1) (pa_cons (pv 0) (pa_cons (pe_call (ok_law_draw T) (hr.mono (by decide)) (by rfl) T.g_law_draw T.F_law_draw.kp T.b_law_draw .nil pass0 (pa_cons (pv 1) (pa_cons (pv 0) (pa_cons pe_int pa_nil)))) pa_nil)))))
      (pss_cons (ps_set (i := 7) sc_law.nd rfl (Or.inl rfl) (pe_callTy (r := rListS K) call_list_of (by rfl) T.m_list PyProof.Rows.boot_list (pa_cons (pe_ix (r := rIxT K) ix_tup (pv 2) pe_int (fun _ _ => rfl)) pa_nil)))
      (pss_cons (ps_set (i := 8) sc_law.nd rfl (Or.inl rfl) (pe_op op_catA (pe_slice (r := rSlA K) sl_tupA (pv 2) po_none (po_some pe_int)) (pe_tup (pa_cons (pv 7) pa_nil))))
      (pss_cons (ps_set (i := 9) sc_law.nd rfl (Or.inl rfl) (pe_call (ok_law_made T) (hr.mono (by decide)) (by rfl) T.g_law_made T.F_law_made.kp T.b_law_made .nil pass0 (pa_cons (pv 8) pa_nil)))
      (pss_cons (ps_asg (pe_op op_sub pe_int (pe_ix (r := rIxL K) ix_list (pv 7) pe_int (fun _ _ => rfl))) (pg_sub (pv 7) pe_int set_list))
      (pss_cons (ps_set (i := 10) sc_law.nd rfl (Or.inl rfl) (pe_call (ok_write_streaminfo T) (hr.mono (by decide)) (by rfl) T.g_write_streaminfo T.F_write_streaminfo.kp T.b_write_streaminfo .nil pass0 (pa_cons (pv 9) pa_nil)))
      (pss_cons (ps_if (PW.pt (pw_or (pt_not (pt_val (pe_call (ok_law_is_bytes T) (hr.mono (by decide)) (by rfl) T.g_law_is_bytes T.F_law_is_bytes.kp T.b_law_is_bytes .nil pass0 (pa_cons (pv 10) pa_nil)))) (pw_or1 (pt_cmpR (op_neD (hu64 hr)) (pv 10) (pe_call (ok_law_body T) (hr.mono (by decide)) (by rfl) T.g_law_body T.F_law_body.kp T.b_law_body .nil pass0 (pa_cons (pv 2) pa_nil)) (nomark _))))) (pss_one (ps_ret pe_bl)) pss_nil)
      (pss_cons (ps_set (i := 11) sc_law.nd rfl (Or.inl rfl) (pe_op op_cat (pe_op op_cat (pv 5) (pv 10)) (pv 6)))
      (pss_cons (ps_set (i := 12) sc_law.nd rfl (Or.inl rfl) (pe_callTy (r := rListS K) call_list_of (by rfl) T.m_list PyProof.Rows.boot_list (pa_cons (pv 11) pa_nil)))
      (pss_cons (ps_set (i := 13) sc_law.nd rfl (Or.inl rfl) (pe_call (ok_read_streaminfo T) (hr.mono (by decide)) (by rfl) T.g_read_streaminfo T.F_read_streaminfo.kp T.b_read_streaminfo .nil passN (pa_cons (pv 11) (pa_cons (pe_callB (r := rLenS K) call_len_seq (by rfl) T.m_len PySem.boot_len (pa_cons (pv 5) pa_nil)) (pa_cons (pe_op op_add (pe_callB (r := rLenS K) call_len_seq (by rfl) T.m_len PySem.boot_len (pa_cons (pv 5) pa_nil)) pe_int) pa_nil)))))
      (pss_cons (ps_if (PW.pt (pw_or (pt_cmpR (op_neD (hu64 hr)) (pv 11) (pv 12) (nomark _)) (pw_or (pt_not (pt_val (pe_call (ok_law_same T) (hr.mono (by decide)) (by rfl) T.g_law_same T.F_law_same.kp T.b_law_same .nil pass0 (pa_cons (pe_meth0 (pv 13) T.cl_StreamInfo T.me_StreamInfo_fields (ok_StreamInfo_fields T) (hr.mono (by decide)) T.b_StreamInfo_fields .nil pass0) (pa_cons (pv 2) pa_nil))))) (pw_or1 (pt_not (pt_val (pe_call (ok_law_same T) (hr.mono (by decide)) (by rfl) T.g_law_same T.F_law_same.kp T.b_law_same .nil pass0 (pa_cons (pe_meth0 (pv 9) T.cl_StreamInfo T.me_StreamInfo_fields (ok_StreamInfo_fields T) (hr.mono (by decide)) T.b_StreamInfo_fields .nil pass0) (pa_cons (pv 2) pa_nil))))))))) (pss_one (ps_ret pe_bl)) pss_nil)
      (pss_cons (ps_set (i := 14) sc_law.nd rfl (Or.inl rfl) (pe_tup (pa_cons (pe_fld (pv 13) rfl) (pa_cons (pe_fld (pv 13) rfl) (pa_cons (pe_fld (pv 13) rfl) (pa_cons (pe_fld (pv 13) rfl) (pa_cons (pe_fld (pv 13) rfl) pa_nil)))))))
      (pss_cons (ps_set (i := 14) sc_law.nd rfl (Or.inl rfl) (pe_op op_catA (pv 14) (pe_tup (pa_cons (pe_fld (pv 13) rfl) (pa_cons (pe_fld (pv 13) rfl) (pa_cons (pe_fld (pv 13) rfl) (pa_cons (pe_fld (pv 13) rfl) pa_nil)))))))
      (pss_cons (ps_if (pt_not (pt_val (pe_call (ok_law_same T) (hr.mono (by decide)) (by rfl) T.g_law_same T.F_law_same.kp T.b_law_same .nil pass0 (pa_cons (pv 14) (pa_cons (pv 2) pa_nil))))) (pss_one (ps_ret pe_bl)) pss_nil)
      (pss_cons (ps_if (PW.pt (pw_or (pt_not (pt_val (pe_callB (r := rIsi K) call_isi (by rfl) T.m_isinstance PyProof.Rows.boot_isinstance (pa_cons (pe_meth0 (pv 13) T.cl_StreamInfo T.me_StreamInfo_fixed_size (ok_StreamInfo_fixed_size T) (hr.mono (by decide)) T.b_StreamInfo_fixed_size .nil pass0) (pa_cons (pe_bltn (v := V.ty "bool") (by rfl) T.m_bool PyProof.Rows.boot_bool rfl) pa_nil))))) (pw_or1 (pt_cmpR op_ne (pe_meth0 (pv 13) T.cl_StreamInfo T.me_StreamInfo_fixed_size (ok_StreamInfo_fixed_size T) (hr.mono (by decide)) T.b_StreamInfo_fixed_size .nil pass0) (pe_cmpR op_eq (pe_ix (r := rIxT K) ix_tup (pv 2) pe_int (fun _ _ => rfl)) (pe_ix (r := rIxT K) ix_tup (pv 2) pe_int (fun _ _ => rfl)) (nomark _)) (nomark _))))) (pss_one (ps_ret pe_bl)) pss_nil)
      (pss_cons (ps_if (PW.pt (pw_or (pt_not (pt_cmpR (op_eqO (ok_StreamInfo_eq T) T.me_StreamInfo_eq.at_ T.me_StreamInfo_eq.fn T.b_StreamInfo_eq pass0 (hr.mono (by decide))) (pv 13) (pv 9) (nomark _))) (pw_or (pt_cmpR (op_eqO (ok_StreamInfo_eq T) T.me_StreamInfo_eq.at_ T.me_StreamInfo_eq.fn T.b_StreamInfo_eq pass0 (hr.mono (by decide))) (pv 9) pe_int (nomark _)) (pw_or (pt_cmpR (op_eqO (ok_StreamInfo_eq T) T.me_StreamInfo_eq.at_ T.me_StreamInfo_eq.fn T.b_StreamInfo_eq pass0 (hr.mono (by decide))) (pv 9) (pe_meth0 (pv 9) T.cl_StreamInfo T.me_StreamInfo_fields (ok_StreamInfo_fields T) (hr.mono (by decide)) T.b_StreamInfo_fields .nil pass0) (nomark _)) (pw_or1 (pt_cmpR op_ne (pe_cmpR (op_eqO (ok_StreamInfo_eq T) T.me_StreamInfo_eq.at_ T.me_StreamInfo_eq.fn T.b_StreamInfo_eq pass0 (hr.mono (by decide))) (pv 9) (pe_call (ok_law_made T) (hr.mono (by decide)) (by rfl) T.g_law_made T.F_law_made.kp T.b_law_made .nil pass0 (pa_cons (pv 3) pa_nil)) (nomark _)) (pe_cmpR (op_eqD (hu64 hr)) (pv 2) (pv 3) (nomark _)) (nomark _))))))) (pss_one (ps_ret pe_bl)) pss_nil)
      (pss_cons (ps_set (i := 14) sc_law.nd rfl (Or.inl rfl) (pe_meth0 (pv 9) T.cl_StreamInfo T.me_StreamInfo_fields (ok_StreamInfo_fields T) (hr.mono (by decide)) T.b_StreamInfo_fields .nil pass0))
      (pss_cons (ps_set (i := 15) sc_law.nd rfl (Or.inl rfl) (pe_ix (r := rIxT K) ix_tup (pv 14) pe_int (fun _ _ => rfl)))
      (pss_cons (ps_expr (pe_bm PySem.F.plainAttrs_list PySem.F.slot_list_append PySem.F.type_list_append mt_append (pv 15) (pa_cons pe_int pa_nil)))
      (pss_cons (ps_asg (pe_op op_sub pe_int (pe_ix (r := rIxL K) ix_list (pv 15) pe_int (fun _ _ => rfl))) (pg_sub (pv 15) pe_int set_list))
      (pss_cons (ps_asg (pe_op op_sub pe_int (pe_ix (r := rIxL K) ix_list (pv 10) pe_int (fun _ _ => rfl))) (pg_sub (pv 10) pe_int set_list))
      (pss_cons (ps_expr (pe_bm PySem.F.plainAttrs_list PySem.F.slot_list_append PySem.F.type_list_append mt_append (pv 10) (pa_cons pe_int pa_nil)))
      (pss_one (ps_ret (pe_and (pe_call (ok_law_same T) (hr.mono (by decide)) (by rfl) T.g_law_same T.F_law_same.kp T.b_law_same .nil pass0 (pa_cons (pe_meth0 (pv 9) T.cl_StreamInfo T.me_StreamInfo_fields (ok_StreamInfo_fields T) (hr.mono (by decide)) T.b_StreamInfo_fields .nil pass0) (pa_cons (pv 2) pa_nil))) (pe_one (pe_cmpR (op_eqD (hu64 hr)) (pe_call (ok_write_streaminfo T) (hr.mono (by decide)) (by rfl) T.g_write_streaminfo T.F_write_streaminfo.kp T.b_write_streaminfo .nil pass0 (pa_cons (pv 9) pa_nil)) (pe_call (ok_law_body T) (hr.mono (by decide)) (by rfl) T.g_law_body T.F_law_body.kp T.b_law_body .nil pass0 (pa_cons (pv 2) pa_nil)) (nomark _))))))))))))))))))))))))))))))))), ?_⟩
  refine q_asgL (xs := [.int 0, .int 0]) (el_lst (ea_cons ev_c (ea_cons ev_c ea_nil)) (by decide)) fun s B hs e1 g1 => ?_
  have hd : DrS K B s a ns := ⟨⟨0, 0, g1⟩, scr_mk hs e1 hS⟩
  clear g1 e1 hS
  refine q_asgC (vs := [.ref s, .ref a]) (ea_cons (ev_var rfl) (ea_cons (ev_var rfl) ea_nil)) fun H1 e1 => ⟨s, a, ns, rfl, hd.ex e1, fun p q r H2 f2 hp hq ok hf => ?_⟩
  have f02 := (Fr.ex hd.1 e1).trans f2
  refine q_asgC (vs := [.ref s, .ref a]) (ea_cons (ev_var rfl) (ea_cons (ev_var rfl) ea_nil)) fun H3 e3 => ⟨s, a, ns, rfl, (hd.fr f02).ex e3, fun p2 q2 r2 H4 f4 hp2 hq2 ok2 hf2 => ?_⟩
  have f24 := (Fr.ex f02.2 e3).trans f4
  have f04 := f02.trans f24
  have hp4 := hp.fr f02.2 f24 hq
  refine q_cut (M := fun σ' H' => ∃ (po qo : Addr) (ro : SI) (z4 : Option V), σ' = [some (.ref a), some (.ref s), some (.ref p), some (.ref po), z4, none, none, none, none, none, none, none, none, none, none, none] ∧ Fr s B H' ∧ RwAt H' p q r ∧ RwAt H' po qo ro ∧ qo ≠ s) ?_ ?_
  · refine sw_when (wt_eq (wi_draw (hd.fr f04) rfl rfl ev_c (by decide) (by decide)) fun H5 f5 => wi_ev (f04.trans f5).2 ev_c) (fun _ H5 f5 => ?_) fun _ H5 f5 => ⟨p2, q2, r2, none, rfl, f04.trans f5, hp4.fr f04.2 f5 hq, hp2.fr f04.2 f5 hq2, hq2⟩
    have f05 := f04.trans f5
    refine qw_asg (wi_op (wi_ev f5.2 ev_c) fun H6 f6 => wi_draw (hd.fr (f05.trans f6)) rfl rfl ev_c (by decide) (by decide)) fun z H6 f6 hz => ?_
    obtain ⟨_, _, rfl, ⟨d, rfl, hdn⟩, rfl⟩ := hz
    have f06 := f05.trans f6
    have hp6 := hp4.fr f04.2 (f5.trans f6) hq
    have hp26 := hp2.fr f04.2 (f5.trans f6) hq2
    have kk : ∀ {σ : L2.St} {G : Hp}, σ[4]? = some (some (.int (4 + (d : Int)))) → EvO (tPart (tVar 4)) σ G (some (4 + (d : Int))) := fun h => eo_some (ev_var h)
    have kk1 : ∀ {σ : L2.St} {G : Hp}, σ[4]? = some (some (.int (4 + (d : Int)))) → EvO (tPart (tOp (rI0 fun i j => .int (i + j)) (tVar 4) (tC (.int 1)))) σ G (some (4 + (d : Int) + 1)) := fun h => eo_some (ev_I0 (g := fun i j => .int (i + j)) (ev_var h) ev_c)
    have hd5 : d = 0 ∨ d = 1 ∨ d = 2 ∨ d = 3 ∨ d = 4 := by omega
    rcases hd5 with rfl | rfl | rfl | rfl | rfl
    · exact s_asgU (EvU.is (ys := siV ⟨r.b0, r.b1, r.f0, r.f1, r2.rate, r.ch, r.dep, r.len, r.dg⟩ q) (eu_catA (eu_catA (EvU.is (ys := (siV r q).take 4) (eu_slA (K := K) (ev_var rfl) hp6.1 eo_none (kk rfl) (by show ¬ ((0:Nat) = 0 ∧ (4:Nat) = 9); decide)) rfl) (EvU.is (ys := ((siV r2 q2).drop 4).take 1) (eu_slA (K := K) (ev_var rfl) hp26.1 (kk rfl) (kk1 rfl) (by show ¬ ((4:Nat) = 0 ∧ (5:Nat) = 9); decide)) rfl) (by intro z; cases z) (by intro z; cases z) (Nat.le_of_ble_eq_true rfl)) (EvU.is (ys := (siV r q).drop 5) (eu_slA (K := K) (ev_var rfl) hp6.1 (kk1 rfl) eo_none (by show ¬ ((5:Nat) = 0 ∧ (9:Nat) = 9); decide)) rfl) (by intro z; cases z) (by intro z; cases z) (Nat.le_of_ble_eq_true rfl)) rfl) fun po H7 hpo e7 g7 => ⟨po, q, _, _, rfl, f06.tex e7, hp6.mono e7, ⟨g7, e7 _ _ hp6.2⟩, hq⟩
    · exact s_asgU (EvU.is (ys := siV ⟨r.b0, r.b1, r.f0, r.f1, r.rate, r2.ch, r.dep, r.len, r.dg⟩ q) (eu_catA (eu_catA (EvU.is (ys := (siV r q).take 5) (eu_slA (K := K) (ev_var rfl) hp6.1 eo_none (kk rfl) (by show ¬ ((0:Nat) = 0 ∧ (5:Nat) = 9); decide)) rfl) (EvU.is (ys := ((siV r2 q2).drop 5).take 1) (eu_slA (K := K) (ev_var rfl) hp26.1 (kk rfl) (kk1 rfl) (by show ¬ ((5:Nat) = 0 ∧ (6:Nat) = 9); decide)) rfl) (by intro z; cases z) (by intro z; cases z) (Nat.le_of_ble_eq_true rfl)) (EvU.is (ys := (siV r q).drop 6) (eu_slA (K := K) (ev_var rfl) hp6.1 (kk1 rfl) eo_none (by show ¬ ((6:Nat) = 0 ∧ (9:Nat) = 9); decide)) rfl) (by intro z; cases z) (by intro z; cases z) (Nat.le_of_ble_eq_true rfl)) rfl) fun po H7 hpo e7 g7 => ⟨po, q, _, _, rfl, f06.tex e7, hp6.mono e7, ⟨g7, e7 _ _ hp6.2⟩, hq⟩
    · exact s_asgU (EvU.is (ys := siV ⟨r.b0, r.b1, r.f0, r.f1, r.rate, r.ch, r2.dep, r.len, r.dg⟩ q) (eu_catA (eu_catA (EvU.is (ys := (siV r q).take 6) (eu_slA (K := K) (ev_var rfl) hp6.1 eo_none (kk rfl) (by show ¬ ((0:Nat) = 0 ∧ (6:Nat) = 9); decide)) rfl) (EvU.is (ys := ((siV r2 q2).drop 6).take 1) (eu_slA (K := K) (ev_var rfl) hp26.1 (kk rfl) (kk1 rfl) (by show ¬ ((6:Nat) = 0 ∧ (7:Nat) = 9); decide)) rfl) (by intro z; cases z) (by intro z; cases z) (Nat.le_of_ble_eq_true rfl)) (EvU.is (ys := (siV r q).drop 7) (eu_slA (K := K) (ev_var rfl) hp6.1 (kk1 rfl) eo_none (by show ¬ ((7:Nat) = 0 ∧ (9:Nat) = 9); decide)) rfl) (by intro z; cases z) (by intro z; cases z) (Nat.le_of_ble_eq_true rfl)) rfl) fun po H7 hpo e7 g7 => ⟨po, q, _, _, rfl, f06.tex e7, hp6.mono e7, ⟨g7, e7 _ _ hp6.2⟩, hq⟩
    · exact s_asgU (EvU.is (ys := siV ⟨r.b0, r.b1, r.f0, r.f1, r.rate, r.ch, r.dep, r2.len, r.dg⟩ q) (eu_catA (eu_catA (EvU.is (ys := (siV r q).take 7) (eu_slA (K := K) (ev_var rfl) hp6.1 eo_none (kk rfl) (by show ¬ ((0:Nat) = 0 ∧ (7:Nat) = 9); decide)) rfl) (EvU.is (ys := ((siV r2 q2).drop 7).take 1) (eu_slA (K := K) (ev_var rfl) hp26.1 (kk rfl) (kk1 rfl) (by show ¬ ((7:Nat) = 0 ∧ (8:Nat) = 9); decide)) rfl) (by intro z; cases z) (by intro z; cases z) (Nat.le_of_ble_eq_true rfl)) (EvU.is (ys := (siV r q).drop 8) (eu_slA (K := K) (ev_var rfl) hp6.1 (kk1 rfl) eo_none (by show ¬ ((8:Nat) = 0 ∧ (9:Nat) = 9); decide)) rfl) (by intro z; cases z) (by intro z; cases z) (Nat.le_of_ble_eq_true rfl)) rfl) fun po H7 hpo e7 g7 => ⟨po, q, _, _, rfl, f06.tex e7, hp6.mono e7, ⟨g7, e7 _ _ hp6.2⟩, hq⟩
    · exact s_asgU (EvU.is (ys := siV ⟨r.b0, r.b1, r.f0, r.f1, r.rate, r.ch, r.dep, r.len, r2.dg⟩ q2) (eu_catA0 (eu_catA (EvU.is (ys := (siV r q).take 8) (eu_slA (K := K) (ev_var rfl) hp6.1 eo_none (kk rfl) (by show ¬ ((0:Nat) = 0 ∧ (8:Nat) = 9); decide)) rfl) (EvU.is (ys := ((siV r2 q2).drop 8).take 1) (eu_slA (K := K) (ev_var rfl) hp26.1 (kk rfl) (kk1 rfl) (by show ¬ ((8:Nat) = 0 ∧ (9:Nat) = 9); decide)) rfl) (by intro z; cases z) (by intro z; cases z) (Nat.le_of_ble_eq_true rfl)) (EvU.is (ys := []) (eu_slA (K := K) (ev_var rfl) hp6.1 (kk1 rfl) eo_none (by show ¬ ((9:Nat) = 0 ∧ (9:Nat) = 9); decide)) rfl) (by intro z; cases z) (Nat.le_of_ble_eq_true rfl)) rfl) fun po H7 hpo e7 g7 => ⟨po, q2, _, _, rfl, f06.tex e7, hp6.mono e7, ⟨g7, e7 _ _ hp26.2⟩, hq2⟩
  clear hp4 hp2 hq2 ok2 hf2 f24 f04 f02 f4 f2 e3 e1 hp
  rintro σ' H1 ⟨po, qo, ro, z4, rfl, f1, hp, hpo, hqo⟩
  refine qw_asgL (wl_junk (hd.fr f1) rfl rfl (wi_draw (hd.fr f1) rfl rfl ev_c (by decide) (by decide)) (fun z hz => by obtain ⟨d, rfl, h⟩ := hz; omega)) fun pf xs H2 hpf f2 gf hxs => ?_
  obtain ⟨w1, rfl, hw1l, -, -⟩ := hxs
  have f12 := f1.trans f2
  have hpfs := ne_st f1.2 hpf
  refine qw_asgL (wl_junk (hd.fr f12) rfl rfl (wi_draw (hd.fr f12) rfl rfl ev_c (by decide) (by decide)) (fun z hz => by obtain ⟨d, rfl, h⟩ := hz; omega)) fun pg xs H3 hpg f3 gg hxs => ?_
  obtain ⟨w2, rfl, hw2l, -, -⟩ := hxs
  have gf3 := f3.l hpfs gf
  have hp3 := hp.fr f1.2 (f2.trans f3) hq
  have hpo3 := hpo.fr f1.2 (f2.trans f3) hqo
  clear gf hp hpo f12 f1 f2 f3 hpf hpg hpfs hd hqo hq
  have hsl := sB_len ok
  have ok' := ok
  obtain ⟨-, -, -, -, -, -, -, -, hdl, hdb⟩ := ok'
  refine q_asgL (xs := (cs r.dg).map V.int) (el_of (K := K) (Ev.s (ev_atT (ev_var rfl) (st_of hp3.1) ev_c (at_of (j := 8) rfl rfl)) (sq_of hp3.2))) fun pd H4 hpd e4 gd => ?_
  refine q_asgU (xs := siV r pd) (EvU.is (eu_catA (eu_slA (K := K) (ev_var rfl) (e4 _ _ hp3.1) eo_none (eo_some ev_c) (by show ¬ ((0:Nat) = 0 ∧ (8:Nat) = 9); decide)) (eu_tup (ea_cons (ev_var rfl) ea_nil) (Nat.le_of_ble_eq_true rfl)) (fun z => by cases z) (fun z => by cases z) (Nat.le_of_ble_eq_true rfl)) rfl) fun ph H5 hph e5 gh => ?_
  refine q_asgC (vs := [.ref ph]) (ea_cons (ev_var rfl) ea_nil) fun H6 e6 => ⟨ph, pd, r, rfl, ⟨e6 _ _ gh, (e5.trans e6) _ _ gd⟩, fun pi H7 hpi e7 hsn => ?_⟩
  obtain ⟨dxi, qi, gi, gqi, hqi⟩ := hsn
  have e47 := (e5.trans e6).trans e7
  have n1 : pi ≠ pd := by rintro rfl; rw [(e5.trans e6) _ _ gd] at hpi; cases hpi
  have n2 : qi ≠ pd := by rintro rfl; rw [(e5.trans e6) _ _ gd] at hqi; cases hqi
  obtain ⟨d0, hd0⟩ : ∃ d0, r.dg[0]? = some d0 := ⟨_, List.getElem?_eq_getElem (by omega)⟩
  have gd7 := e47 _ _ gd
  refine q_setL (j := 0) (v := .int (255 - (d0 : Int))) gd7 (ev_I0 ev_c (ev_ixS (i := 0) (n := 0) (Ev.s (ev_var rfl) (sq_of gd7)) ev_c (at_of (j := 0) rfl (at_int (cs_at hd0))))) (ev_var rfl) ev_c (by rw [List.length_map, cs_len]; omega) fun H8 e8 => ?_
  have ex3 : Ex H3 (upd H8 pd (.lst (((cs r.dg).map V.int).set 0 (.int (255 - (d0 : Int)))))) := Ex.mut (e4.trans (e47.trans e8)) hpd
  have hinf : SiAt T.C_StreamInfo (upd H8 pd (.lst (((cs r.dg).map V.int).set 0 (.int (255 - (d0 : Int)))))) pi r := ⟨dxi, qi, by rw [upd_ne n1]; exact e8 _ _ gi, by rw [upd_ne n2]; exact e8 _ _ gqi⟩
  generalize upd H8 pd (.lst (((cs r.dg).map V.int).set 0 (.int (255 - (d0 : Int))))) = G at *
  have hpG := hp3.mono ex3
  have hpoG := hpo3.mono ex3
  have gfG := ex3 _ _ gf3
  have ggG := ex3 _ _ gg
  clear hp3 hpo3 gf3 gg ex3 e8 gd7 e47 e7 e6 e5 e4 gd gh gi gqi hqi n1 n2 hpi hph hpd
  show tSeq _ _ _ [some (.ref a), some (.ref s), some (.ref p), some (.ref po), z4, some (.ref pf), some (.ref pg), some (.ref pd), some (.ref ph), some (.ref pi), none, none, none, none, none, none] _
  obtain ⟨dxi, qi, gi, gqi⟩ := id hinf
  refine q_asgL (el_wsi rfl hinf ok) fun pb H1 hpb e1 gb => ?_
  have hsb := sB_lt ok
  refine q_when (b := false) (et_is (et_or (a := false) (b := false) (et_is (et_not (et_B (ev_isbytes (ds := sB r) (Ev.r (ev_var rfl) gb) (by omega) hsb))) rfl) fun _ => et_is (et_test (ev_neI (K := K) (ns := cs (sB r)) (ms := cs (sB r)) (Ev.s (ev_var rfl) (sq_of gb)) (EvR.s (EvL.r (el_lbody rfl (hpG.mono e1) ok))))) (by simp)) rfl) (fun hb => by cases hb) fun _ H2 e2 => ?_
  have e12 := e1.trans e2
  have gb2 := e2 _ _ gb
  refine q_asgL (xs := (cs (w1 ++ (sB r ++ w2))).map V.int) (EvL.is (el_cat (EvL.r (el_cat (Ev.r (ev_var rfl) (e12 _ _ gfG)) (Ev.r (ev_var rfl) gb2) (by rw [List.length_map, cs_len, List.length_map, cs_len]; omega))) (Ev.r (ev_var rfl) (e12 _ _ ggG)) (by rw [List.length_append, List.length_map, cs_len, List.length_map, cs_len, List.length_map, cs_len]; omega)) (by rw [← List.map_append, ← List.map_append, ← cs_append, ← cs_append, List.append_assoc])) fun pt H3 hpt e3 gt => ?_
  refine q_asgL (el_of (K := K) (Ev.s (ev_var rfl) (sq_of gt))) fun pk H4 hpk e4 gk => ?_
  have e14 := e12.trans (e3.trans e4)
  have hw : ∀ {σ : L2.St} {H' : Hp}, σ[5]? = some (some (.ref pf)) → Ex G H' → Ev (tCB (rLenS K) (tCons (tVar 5) tNil)) σ H' (.int (w1.length : Int)) := fun h e => Ev.is (ev_lenS (K := K) (Ev.s (ev_var h) (sq_of (e _ _ gfG)))) (by rw [List.length_map, cs_len])
  refine q_asgC (vs := [.ref pt, .int (w1.length : Int), .int ((w1.length + (sB r).length : Nat) : Int)]) (ea_cons (ev_var rfl) (ea_cons (hw rfl e14) (ea_cons (Ev.is (ev_I0 (hw rfl e14) ev_c) (congrArg V.int (by omega))) ea_nil))) fun H5 e5 => ⟨pt, w1, sB r, w2, r, rfl, sq_of ((e4.trans e5) _ _ gt), ok, fun _ => rfl, (fun n h => by rw [hsl, hf] at h; cases h), (fun n h => by rw [hsl, hf] at h; cases h), fun _ pc H6 e6 hback => ?_⟩
  have e46 := e5.trans e6
  have e16 := e14.trans e46
  have gt6 := (e4.trans e46) _ _ gt
  have gk6 := e46 _ _ gk
  refine q_when (b := false) (et_is (et_or (a := false) (et_is (et_test (ev_neI (K := K) (ns := cs (w1 ++ (sB r ++ w2))) (ms := cs (w1 ++ (sB r ++ w2))) (Ev.s (ev_var rfl) (sq_of gt6)) (Ev.s (ev_var rfl) (sq_of gk6)))) (by simp)) fun _ => et_or (a := false) (b := false) (et_is (et_not (et_B (sameF (r := r) rfl hback rfl (hpG.mono e16) ok))) rfl) fun _ => et_is (et_not (et_B (sameF (r := r) rfl (hinf.mono e16) rfl (hpG.mono e16) ok))) rfl) rfl) (fun hb => by cases hb) fun _ H7 e7 => ?_
  have hb7 := hback.mono e7
  obtain ⟨dxb, qb, gbk, gqb⟩ := id hb7
  have fb : ∀ {σ : L2.St} {H' : Hp} {f : Str} {v : V}, NoAttr K T.C_StreamInfo f → σ[13]? = some (some (.ref pc)) → Ex H7 H' → (siF r qb).lookup f = some v → Ev (tFld K (tVar 13) f) σ H' v := fun hn h e hf => ev_fld T.cl_StreamInfo hn (ev_var h) (e _ _ gbk) hf
  have r7 := Ex.refl H7
  refine q_asgU (eu_tup (ea_cons (fb T.n_StreamInfo_least_block rfl r7 rfl) (ea_cons (fb T.n_StreamInfo_greatest_block rfl r7 rfl) (ea_cons (fb T.n_StreamInfo_least_frame rfl r7 rfl) (ea_cons (fb T.n_StreamInfo_greatest_frame rfl r7 rfl) (ea_cons (fb T.n_StreamInfo_rate rfl r7 rfl) ea_nil))))) (Nat.le_of_ble_eq_true rfl)) fun t1 H8 ht1 e8 gt1 => ?_
  refine q_asgU (xs := siV r qb) (EvU.is (eu_catV (ev_var rfl) gt1 (eu_tup (ea_cons (fb T.n_StreamInfo_channel_count rfl e8 rfl) (ea_cons (fb T.n_StreamInfo_depth rfl e8 rfl) (ea_cons (fb T.n_StreamInfo_length rfl e8 rfl) (ea_cons (fb T.n_StreamInfo_digest rfl e8 rfl) ea_nil)))) (Nat.le_of_ble_eq_true rfl)) (fun z => by cases z) (fun z => by cases z) (Nat.le_of_ble_eq_true rfl)) rfl) fun t2 H9 ht2 e9 gt2 => ?_
  have e79 := e8.trans e9
  have e19 := e16.trans (e7.trans e79)
  refine q_when (b := false) (et_is (et_not (et_B (ev_call (z := .bl true) (vs := [.ref t2, .ref p]) (ea_cons (ev_var rfl) (ea_cons (ev_var rfl) ea_nil)) fun G' eG Q' q' _ => ⟨t2, qb, p, q, r, rfl, ⟨eG _ _ gt2, (e79.trans eG) _ _ gqb⟩, hpG.mono (e19.trans eG), ok, q'⟩))) rfl) (fun hb => by cases hb) fun _ Ha ea => ?_
  have e1a := e19.trans ea
  have hba := hb7.mono (e79.trans ea)
  have fix : ∀ {σ : L2.St} {E : XK} {H' : Hp}, σ[13]? = some (some (.ref pc)) → Ex Ha H' → Ev (tMeth T.C_StreamInfo "fixed_size" (sp_fixed T.C_StreamInfo) [] E (tVar 13) tNil) σ H' (.bl (decide (r.b0 = r.b1))) := fun {σ E H'} h e => by
    obtain ⟨dx', q', g', _⟩ := hba.mono e
    exact ev_mth (vs := []) (ev_var h) g' rfl ea_nil fun G' eG Q' q' _ => ⟨pc, r, rfl, hba.mono (e.trans eG), q'⟩
  have ixr : ∀ {σ : L2.St} {H' : Hp} (j : Nat) {v : V}, σ[2]? = some (some (.ref p)) → Ex Ha H' → (siV r q)[j]? = some v → Ev (tOp (rIxT K) (tVar 2) (tC (.int (j : Int)))) σ H' v := fun {σ H'} j {v} h e hv => ev_atT (ev_var h) (st_of ((e1a.trans e) _ _ hpG.1)) ev_c (at_of (j := j) rfl hv)
  refine q_when (b := false) (et_is (et_or (a := false) (b := false) (et_is (et_not (et_B (ev_isiBB (fix rfl (Ex.refl _))))) rfl) fun _ => et_is (et_test (ev_ne (fix rfl (Ex.refl _)) (ev_eq (ixr 0 (v := .int (r.b0 : Int)) rfl (Ex.refl _) rfl) (ixr 1 (v := .int (r.b1 : Int)) rfl (Ex.refl _) rfl) rfl) rfl)) (by
    have : decide (r.b0 = r.b1) = decide (V.int (r.b0 : Int) = V.int (r.b1 : Int)) := decide_eq_decide.mpr ⟨fun h => by rw [h], fun h => by have := V.int.inj h; omega⟩
    rw [this]
    simp)) rfl) (fun hb => by cases hb) fun _ Hb eb => ?_
  have e1b := e1a.trans eb
  have hbb := hba.mono eb
  have hib := hinf.mono e1b
  have infX : ∀ {σ : L2.St}, σ[9]? = some (some (.ref pi)) → EvX (tVar 9) σ Hb (SiX T.C_StreamInfo r) := fun h => Ev.x (ev_var h) fun G' eG => ⟨pi, rfl, hib.mono eG⟩
  refine q_when (b := false) (et_is (et_or (a := false) (et_is (et_not (et_test (eqS T (r := r) (r2 := r) (Ev.x (ev_var rfl) fun G' eG => ⟨pc, rfl, hbb.mono eG⟩) (infX rfl)))) (by rw [SeqAt.eqv_refl _ (SeqAt.canLay_of_shaped (siD_shaped r))]; rfl)) fun _ => et_or (a := false) (et_test (neS T (r := r) (infX rfl) (Ev.x (S := fun v _ => v = .int 5) ev_c fun _ _ => rfl) fun y G' hy => ⟨.type "int", fun H1 e => by rw [hy]; exact .base (.int _), T.ki_StreamInfo_int, T.nf_StreamInfo_int⟩)) fun _ => et_or (a := false) (b := false) (et_test (neS T (r := r) (infX rfl) (ex_flds (ev_var rfl) hib) fun y G' ⟨t, d, hy, ht⟩ => ⟨.type "tuple", fun H1 e => by rw [hy]; exact .base (.tup (e _ _ ht.1)), T.ki_StreamInfo_tuple, T.nf_StreamInfo_tuple⟩)) fun _ => et_is (et_test (ev_ne (eqS T (r := r) (r2 := ro) (infX rfl) (ex_call1 (S := fun v _ => v = .ref po) (Ev.x (ev_var rfl) fun _ _ => rfl) fun v G' Q' E' eG hv q' => ⟨po, qo, ro, by rw [hv]; rfl, hpoG.mono (e1b.trans eG), fun a' H' _ e' h => q' _ H' e' ⟨a', rfl, h.at⟩⟩)) (ev_eqDv (K := K) (d := siD r) (d' := siD ro) (EvD.of (ev_var rfl) (siV_d (e1b _ _ hpG.1) (e1b _ _ hpG.2))) (EvD.of (ev_var rfl) (siV_d (e1b _ _ hpoG.1) (e1b _ _ hpoG.2))) (siD_shaped r) (siD_shaped ro)) rfl)) (by simp)) rfl) (fun hb => by cases hb) fun _ Hc ec => ?_
  have e1c := e1b.trans ec
  have hic := hinf.mono e1c
  obtain ⟨dxc, qc, gic, gqc⟩ := id hic
  refine q_asgM (vs := []) (ev_var rfl) gic rfl ea_nil fun Hd ed => ⟨pi, r, rfl, hic.mono ed, fun t3 q3 He ht3 hq3 ee gt3 gq3 => ?_⟩
  refine q_asg (v := .ref q3) (ev_atT (ev_var rfl) (st_of gt3) ev_c (at_of (j := 8) rfl rfl)) fun Hf ef => ?_
  have ecf := ed.trans (ee.trans ef)
  have hq3c : Hc q3 = none := fresh_back ed hq3
  have gq3f := ef _ _ gq3
  refine q_app (v := .int 1) gq3f (ev_var rfl) ev_c (by rw [List.length_map, cs_len]; omega) fun Hg eg => ?_
  obtain ⟨zs, hz, hzl, hz0⟩ : ∃ zs : List V, zs = (cs r.dg).map V.int ++ [V.int 1] ∧ 0 < zs.length ∧ zs[0]? = some (.int (d0 : Int)) := ⟨_, rfl, by rw [List.length_append]; show 0 < _ + 1; omega, by rw [List.getElem?_append_left (by rw [List.length_map, cs_len]; omega)]; exact at_int (cs_at hd0)⟩
  rw [← hz]
  refine q_setL (j := 0) (v := .int (255 - (d0 : Int))) upd_same (ev_I0 ev_c (ev_ixS (i := 0) (n := 0) (Ev.s (ev_var rfl) (sq_of upd_same)) ev_c (at_of (j := 0) rfl hz0))) (ev_var rfl) ev_c hzl fun Hh eh => ?_
  have exh := Ex.mut (o := .lst (zs.set 0 (V.int (255 - (d0 : Int))))) ((Ex.mut (o := .lst zs) (ecf.trans eg) hq3c).trans eh) hq3c
  generalize upd Hh q3 (.lst (zs.set 0 (V.int (255 - (d0 : Int))))) = Hi at *
  have gbi := (e2.trans ((e3.trans e4).trans (e46.trans (e7.trans (e79.trans (ea.trans (eb.trans (ec.trans exh)))))))) _ _ gb
  obtain ⟨ws, hw', hwl, hwl1, b0, hb0⟩ : ∃ ws : List V, ws = (cs (sB r)).map V.int ∧ 0 < ws.length ∧ ws.length ≤ 1000 ∧ ∃ b0 : Nat, ws[0]? = some (.int (b0 : Int)) := ⟨_, rfl, by rw [List.length_map, cs_len]; omega, by rw [List.length_map, cs_len]; omega, _, at_int (cs_at (List.getElem?_eq_getElem (by omega)))⟩
  rw [← hw'] at gbi
  clear hw'
  refine q_setL (j := 0) (v := .int (255 - (b0 : Int))) gbi (ev_I0 ev_c (ev_ixS (i := 0) (n := 0) (Ev.s (ev_var rfl) (sq_of gbi)) ev_c (at_of (j := 0) rfl hb0))) (ev_var rfl) ev_c hwl fun Hj ej => ?_
  refine q_app (v := .int 1) upd_same (ev_var rfl) ev_c (by rw [List.length_set]; omega) fun Hk ek => ?_
  have exk := Ex.mut (o := .lst (ws.set 0 (V.int (255 - (b0 : Int))) ++ [V.int 1])) ((Ex.mut (o := .lst (ws.set 0 (V.int (255 - (b0 : Int))))) ((e1c.trans exh).trans ej) hpb).trans ek) hpb
  have hik := hinf.mono exk
  have hpk := hpG.mono exk
  exact s_ret (v := .bl true) (ev_is (ev_andV (sameF (r := r) rfl hik rfl hpk ok) fun _ => ev_eqI (K := K) (ns := cs (sB r)) (ms := cs (sB r)) (EvR.s (EvL.r (el_wsi rfl hik ok))) (EvR.s (EvL.r (el_lbody rfl hpk ok)))) (by simp)) fun Hl el => k _

end
set_option maxHeartbeats 0 in
theorem all_mk {l : PySem.W.OpenLaw} {w : World} {K : PySem.W.Frag} {h : Heap} {mg : Str → Option Value} {fa : Addr} {f1 f2 f3 f4 f5 f6 f7 f8 f9 f10 f11 f12 f13 f14 f15 f16 f17 f18 f19 f20 f21 f22 f23 f24 f25 f26 f27 f28 f29 C_BitWriter C_BitReader C_StreamInfo C_MonochordError C_Truncated C_InvalidForm C_Disagreement : Addr} (X : K.In h) (G : h.Ns mainGlobals mg) (hfa : mg "law" = some (.ref fa))
    {od1 an1 : Option Addr} {sl1 : Array (Option Value)} {oc1 dc1 pm1 cd1 ct1 : Value} {kV1 : Value} {od2 an2 : Option Addr} {sl2 : Array (Option Value)} {oc2 dc2 pm2 cd2 ct2 : Value} {kV2 : Value} {od3 an3 : Option Addr} {sl3 : Array (Option Value)} {oc3 dc3 pm3 cd3 ct3 : Value} {kV3 : Value} {od4 an4 : Option Addr} {sl4 : Array (Option Value)} {oc4 dc4 pm4 cd4 ct4 : Value} {kV4 : Value} {od5 an5 : Option Addr} {sl5 : Array (Option Value)} {oc5 dc5 pm5 cd5 ct5 : Value} {kV5 : Value} {od6 an6 : Option Addr} {sl6 : Array (Option Value)} {oc6 dc6 pm6 cd6 ct6 : Value} {kV6 : Value} {DT6 : Addr} {du6_0 tc6 : Value} {td6 : Option Addr} {tn6 : Nat} {tsl6 : Array (Option Value)} {od7 an7 : Option Addr} {sl7 : Array (Option Value)} {oc7 dc7 pm7 cd7 ct7 : Value} {kV7 : Value} {od8 an8 : Option Addr} {sl8 : Array (Option Value)} {oc8 dc8 pm8 cd8 ct8 : Value} {kV8 : Value} {od9 an9 : Option Addr} {sl9 : Array (Option Value)} {oc9 dc9 pm9 cd9 ct9 : Value} {kV9 : Value} {od10 an10 : Option Addr} {sl10 : Array (Option Value)} {oc10 dc10 pm10 cd10 ct10 : Value} {kV10 : Value} {od11 an11 : Option Addr} {sl11 : Array (Option Value)} {oc11 dc11 pm11 cd11 ct11 : Value} {kV11 : Value} {od12 an12 : Option Addr} {sl12 : Array (Option Value)} {oc12 dc12 pm12 cd12 ct12 : Value} {kV12 : Value} {od13 an13 : Option Addr} {sl13 : Array (Option Value)} {oc13 dc13 pm13 cd13 ct13 : Value} {kV13 : Value} {od14 an14 : Option Addr} {sl14 : Array (Option Value)} {oc14 dc14 pm14 cd14 ct14 : Value} {kV14 : Value} {od15 an15 : Option Addr} {sl15 : Array (Option Value)} {oc15 dc15 pm15 cd15 ct15 : Value} {kV15 : Value} {od16 an16 : Option Addr} {sl16 : Array (Option Value)} {oc16 dc16 pm16 cd16 ct16 : Value} {kV16 : Value} {od17 an17 : Option Addr} {sl17 : Array (Option Value)} {oc17 dc17 pm17 cd17 ct17 : Value} {kV17 : Value} {od18 an18 : Option Addr} {sl18 : Array (Option Value)} {oc18 dc18 pm18 cd18 ct18 : Value} {kV18 : Value} {od19 an19 : Option Addr} {sl19 : Array (Option Value)} {oc19 dc19 pm19 cd19 ct19 : Value} {kV19 : Value} {od20 an20 : Option Addr} {sl20 : Array (Option Value)} {oc20 dc20 pm20 cd20 ct20 : Value} {kV20 : Value} {od21 an21 : Option Addr} {sl21 : Array (Option Value)} {oc21 dc21 pm21 cd21 ct21 : Value} {kV21 : Value} {od22 an22 : Option Addr} {sl22 : Array (Option Value)} {oc22 dc22 pm22 cd22 ct22 : Value} {kV22 : Value} {od23 an23 : Option Addr} {sl23 : Array (Option Value)} {oc23 dc23 pm23 cd23 ct23 : Value} {kV23 : Value} {od24 an24 : Option Addr} {sl24 : Array (Option Value)} {oc24 dc24 pm24 cd24 ct24 : Value} {kV24 : Value} {od25 an25 : Option Addr} {sl25 : Array (Option Value)} {oc25 dc25 pm25 cd25 ct25 : Value} {kV25 : Value} {od26 an26 : Option Addr} {sl26 : Array (Option Value)} {oc26 dc26 pm26 cd26 ct26 : Value} {kV26 : Value} {od27 an27 : Option Addr} {sl27 : Array (Option Value)} {oc27 dc27 pm27 cd27 ct27 : Value} {kV27 : Value} {od28 an28 : Option Addr} {sl28 : Array (Option Value)} {oc28 dc28 pm28 cd28 ct28 : Value} {kV28 : Value} {od29 an29 : Option Addr} {sl29 : Array (Option Value)} {oc29 dc29 pm29 cd29 ct29 : Value} {kV29 : Value} {xn_MonochordError xq_MonochordError : Str} {xN_MonochordError : Addr} {xb_MonochordError : List Value} {xs_MonochordError : List Str} {xu_MonochordError : List Value} {xa_MonochordError : Bool} {xc_MonochordError : Option Bool} {xd_MonochordError : Option Addr} {xj0_MonochordError xj1_MonochordError xj3_MonochordError xj5_MonochordError : Option Value} {xt_MonochordError : Tok} {xn_Truncated xq_Truncated : Str} {xN_Truncated : Addr} {xb_Truncated : List Value} {xs_Truncated : List Str} {xu_Truncated : List Value} {xa_Truncated : Bool} {xc_Truncated : Option Bool} {xd_Truncated : Option Addr} {xj0_Truncated xj1_Truncated xj3_Truncated xj5_Truncated : Option Value} {xt_Truncated : Tok} {xn_InvalidForm xq_InvalidForm : Str} {xN_InvalidForm : Addr} {xb_InvalidForm : List Value} {xs_InvalidForm : List Str} {xu_InvalidForm : List Value} {xa_InvalidForm : Bool} {xc_InvalidForm : Option Bool} {xd_InvalidForm : Option Addr} {xj0_InvalidForm xj1_InvalidForm xj3_InvalidForm xj5_InvalidForm : Option Value} {xt_InvalidForm : Tok} {xn_Disagreement xq_Disagreement : Str} {xN_Disagreement : Addr} {xb_Disagreement : List Value} {xs_Disagreement : List Str} {xu_Disagreement : List Value} {xa_Disagreement : Bool} {xc_Disagreement : Option Bool} {xd_Disagreement : Option Addr} {xj0_Disagreement xj1_Disagreement xj3_Disagreement xj5_Disagreement : Option Value} {xt_Disagreement : Tok} {u_LENGTH : Value} {u_LEAST_BLOCK : Value} {u_LEAST_DEPTH : Value}
    (a1 : PySem.W.findIn K (.ref C_MonochordError) "__init__" = some (some (.ref f1))) (i1 : PySem.W.isFn K (.ref f1) = true)
    (l1 : K.lookup f1 = some ⟨oc1, od1, .func (PySem.W.fnOf "__init__" "MonochordError.__init__" (defArgs s_MonochordError_init) (defBody s_MonochordError_init) (defScope s_MonochordError_init) .none kV1 dc1 pm1 an1 cd1 ct1), sl1⟩) (c1 : PySem.W.codeIn K cd1 "MonochordError.__init__" = true) (k1 : PySem.W.keepIn K (.ref f1) = true)
    (a2 : PySem.W.findIn K (.ref C_BitWriter) "__init__" = some (some (.ref f2))) (i2 : PySem.W.isFn K (.ref f2) = true)
    (l2 : K.lookup f2 = some ⟨oc2, od2, .func (PySem.W.fnOf "__init__" "BitWriter.__init__" (defArgs s_BitWriter_init) (defBody s_BitWriter_init) (defScope s_BitWriter_init) .none kV2 dc2 pm2 an2 cd2 ct2), sl2⟩) (c2 : PySem.W.codeIn K cd2 "BitWriter.__init__" = true) (k2 : PySem.W.keepIn K (.ref f2) = true)
    (a3 : PySem.W.findIn K (.ref C_BitWriter) "write" = some (some (.ref f3))) (i3 : PySem.W.isFn K (.ref f3) = true)
    (l3 : K.lookup f3 = some ⟨oc3, od3, .func (PySem.W.fnOf "write" "BitWriter.write" (defArgs s_BitWriter_write) (defBody s_BitWriter_write) (defScope s_BitWriter_write) .none kV3 dc3 pm3 an3 cd3 ct3), sl3⟩) (c3 : PySem.W.codeIn K cd3 "BitWriter.write" = true) (k3 : PySem.W.keepIn K (.ref f3) = true)
    (a4 : PySem.W.findIn K (.ref C_BitWriter) "append_bytes" = some (some (.ref f4))) (i4 : PySem.W.isFn K (.ref f4) = true)
    (l4 : K.lookup f4 = some ⟨oc4, od4, .func (PySem.W.fnOf "append_bytes" "BitWriter.append_bytes" (defArgs s_BitWriter_append_bytes) (defBody s_BitWriter_append_bytes) (defScope s_BitWriter_append_bytes) .none kV4 dc4 pm4 an4 cd4 ct4), sl4⟩) (c4 : PySem.W.codeIn K cd4 "BitWriter.append_bytes" = true) (k4 : PySem.W.keepIn K (.ref f4) = true)
    (a5 : PySem.W.findIn K (.ref C_BitWriter) "byte_list" = some (some (.ref f5))) (i5 : PySem.W.isFn K (.ref f5) = true)
    (l5 : K.lookup f5 = some ⟨oc5, od5, .func (PySem.W.fnOf "byte_list" "BitWriter.byte_list" (defArgs s_BitWriter_byte_list) (defBody s_BitWriter_byte_list) (defScope s_BitWriter_byte_list) .none kV5 dc5 pm5 an5 cd5 ct5), sl5⟩) (c5 : PySem.W.codeIn K cd5 "BitWriter.byte_list" = true) (k5 : PySem.W.keepIn K (.ref f5) = true)
    (a6 : PySem.W.findIn K (.ref C_BitReader) "__init__" = some (some (.ref f6))) (i6 : PySem.W.isFn K (.ref f6) = true)
    (l6 : K.lookup f6 = some ⟨oc6, od6, .func (PySem.W.fnOf "__init__" "BitReader.__init__" (defArgs s_BitReader_init) (defBody s_BitReader_init) (defScope s_BitReader_init) (.ref DT6) kV6 dc6 pm6 an6 cd6 ct6), sl6⟩) (c6 : PySem.W.codeIn K cd6 "BitReader.__init__" = true) (k6 : PySem.W.keepIn K (.ref f6) = true)
    (t6 : K.lookup DT6 = some ⟨tc6, td6, .seq (List.toArray [du6_0]) tn6, tsl6⟩)
    (rd6_0 : RelV (V.int 0) du6_0)
    (a7 : PySem.W.findIn K (.ref C_BitReader) "read" = some (some (.ref f7))) (i7 : PySem.W.isFn K (.ref f7) = true)
    (l7 : K.lookup f7 = some ⟨oc7, od7, .func (PySem.W.fnOf "read" "BitReader.read" (defArgs s_BitReader_read) (defBody s_BitReader_read) (defScope s_BitReader_read) .none kV7 dc7 pm7 an7 cd7 ct7), sl7⟩) (c7 : PySem.W.codeIn K cd7 "BitReader.read" = true) (k7 : PySem.W.keepIn K (.ref f7) = true)
    (a8 : PySem.W.findIn K (.ref C_BitReader) "read_bytes" = some (some (.ref f8))) (i8 : PySem.W.isFn K (.ref f8) = true)
    (l8 : K.lookup f8 = some ⟨oc8, od8, .func (PySem.W.fnOf "read_bytes" "BitReader.read_bytes" (defArgs s_BitReader_read_bytes) (defBody s_BitReader_read_bytes) (defScope s_BitReader_read_bytes) .none kV8 dc8 pm8 an8 cd8 ct8), sl8⟩) (c8 : PySem.W.codeIn K cd8 "BitReader.read_bytes" = true) (k8 : PySem.W.keepIn K (.ref f8) = true)
    (a9 : PySem.W.findIn K (.ref C_BitReader) "byte_place" = some (some (.ref f9))) (i9 : PySem.W.isFn K (.ref f9) = true)
    (l9 : K.lookup f9 = some ⟨oc9, od9, .func (PySem.W.fnOf "byte_place" "BitReader.byte_place" (defArgs s_BitReader_byte_place) (defBody s_BitReader_byte_place) (defScope s_BitReader_byte_place) .none kV9 dc9 pm9 an9 cd9 ct9), sl9⟩) (c9 : PySem.W.codeIn K cd9 "BitReader.byte_place" = true) (k9 : PySem.W.keepIn K (.ref f9) = true)
    (a10 : PySem.W.findIn K (.ref C_BitReader) "aligned" = some (some (.ref f10))) (i10 : PySem.W.isFn K (.ref f10) = true)
    (l10 : K.lookup f10 = some ⟨oc10, od10, .func (PySem.W.fnOf "aligned" "BitReader.aligned" (defArgs s_BitReader_aligned) (defBody s_BitReader_aligned) (defScope s_BitReader_aligned) .none kV10 dc10 pm10 an10 cd10 ct10), sl10⟩) (c10 : PySem.W.codeIn K cd10 "BitReader.aligned" = true) (k10 : PySem.W.keepIn K (.ref f10) = true)
    (a11 : PySem.W.findIn K (.ref C_StreamInfo) "__init__" = some (some (.ref f11))) (i11 : PySem.W.isFn K (.ref f11) = true)
    (l11 : K.lookup f11 = some ⟨oc11, od11, .func (PySem.W.fnOf "__init__" "StreamInfo.__init__" (defArgs s_StreamInfo_init) (defBody s_StreamInfo_init) (defScope s_StreamInfo_init) .none kV11 dc11 pm11 an11 cd11 ct11), sl11⟩) (c11 : PySem.W.codeIn K cd11 "StreamInfo.__init__" = true) (k11 : PySem.W.keepIn K (.ref f11) = true)
    (a12 : PySem.W.findIn K (.ref C_StreamInfo) "fields" = some (some (.ref f12))) (i12 : PySem.W.isFn K (.ref f12) = true)
    (l12 : K.lookup f12 = some ⟨oc12, od12, .func (PySem.W.fnOf "fields" "StreamInfo.fields" (defArgs s_StreamInfo_fields) (defBody s_StreamInfo_fields) (defScope s_StreamInfo_fields) .none kV12 dc12 pm12 an12 cd12 ct12), sl12⟩) (c12 : PySem.W.codeIn K cd12 "StreamInfo.fields" = true) (k12 : PySem.W.keepIn K (.ref f12) = true)
    (a13 : PySem.W.findIn K (.ref C_StreamInfo) "fixed_size" = some (some (.ref f13))) (i13 : PySem.W.isFn K (.ref f13) = true)
    (l13 : K.lookup f13 = some ⟨oc13, od13, .func (PySem.W.fnOf "fixed_size" "StreamInfo.fixed_size" (defArgs s_StreamInfo_fixed_size) (defBody s_StreamInfo_fixed_size) (defScope s_StreamInfo_fixed_size) .none kV13 dc13 pm13 an13 cd13 ct13), sl13⟩) (c13 : PySem.W.codeIn K cd13 "StreamInfo.fixed_size" = true) (k13 : PySem.W.keepIn K (.ref f13) = true)
    (a14 : PySem.W.findIn K (.ref C_StreamInfo) "__eq__" = some (some (.ref f14))) (i14 : PySem.W.isFn K (.ref f14) = true)
    (l14 : K.lookup f14 = some ⟨oc14, od14, .func (PySem.W.fnOf "__eq__" "StreamInfo.__eq__" (defArgs s_StreamInfo_eq) (defBody s_StreamInfo_eq) (defScope s_StreamInfo_eq) .none kV14 dc14 pm14 an14 cd14 ct14), sl14⟩) (c14 : PySem.W.codeIn K cd14 "StreamInfo.__eq__" = true) (k14 : PySem.W.keepIn K (.ref f14) = true)
    (a15 : PySem.W.nsIn K mainGlobals "read_streaminfo" = some (some (.ref f15)))
    (l15 : K.lookup f15 = some ⟨oc15, od15, .func (PySem.W.fnOf "read_streaminfo" "read_streaminfo" (defArgs s_read_streaminfo) (defBody s_read_streaminfo) (defScope s_read_streaminfo) .none kV15 dc15 pm15 an15 cd15 ct15), sl15⟩) (c15 : PySem.W.codeIn K cd15 "read_streaminfo" = true) (k15 : PySem.W.keepIn K (.ref f15) = true)
    (a16 : PySem.W.nsIn K mainGlobals "write_streaminfo" = some (some (.ref f16)))
    (l16 : K.lookup f16 = some ⟨oc16, od16, .func (PySem.W.fnOf "write_streaminfo" "write_streaminfo" (defArgs s_write_streaminfo) (defBody s_write_streaminfo) (defScope s_write_streaminfo) .none kV16 dc16 pm16 an16 cd16 ct16), sl16⟩) (c16 : PySem.W.codeIn K cd16 "write_streaminfo" = true) (k16 : PySem.W.keepIn K (.ref f16) = true)
    (a17 : PySem.W.nsIn K mainGlobals "_check_blocks" = some (some (.ref f17)))
    (l17 : K.lookup f17 = some ⟨oc17, od17, .func (PySem.W.fnOf "_check_blocks" "_check_blocks" (defArgs s_check_blocks) (defBody s_check_blocks) (defScope s_check_blocks) .none kV17 dc17 pm17 an17 cd17 ct17), sl17⟩) (c17 : PySem.W.codeIn K cd17 "_check_blocks" = true) (k17 : PySem.W.keepIn K (.ref f17) = true)
    (a18 : PySem.W.nsIn K mainGlobals "_law_is_integer" = some (some (.ref f18)))
    (l18 : K.lookup f18 = some ⟨oc18, od18, .func (PySem.W.fnOf "_law_is_integer" "_law_is_integer" (defArgs s_law_is_integer) (defBody s_law_is_integer) (defScope s_law_is_integer) .none kV18 dc18 pm18 an18 cd18 ct18), sl18⟩) (c18 : PySem.W.codeIn K cd18 "_law_is_integer" = true) (k18 : PySem.W.keepIn K (.ref f18) = true)
    (a19 : PySem.W.nsIn K mainGlobals "_law_refill" = some (some (.ref f19)))
    (l19 : K.lookup f19 = some ⟨oc19, od19, .func (PySem.W.fnOf "_law_refill" "_law_refill" (defArgs s_law_refill) (defBody s_law_refill) (defScope s_law_refill) .none kV19 dc19 pm19 an19 cd19 ct19), sl19⟩) (c19 : PySem.W.codeIn K cd19 "_law_refill" = true) (k19 : PySem.W.keepIn K (.ref f19) = true)
    (a20 : PySem.W.nsIn K mainGlobals "_law_draw" = some (some (.ref f20)))
    (l20 : K.lookup f20 = some ⟨oc20, od20, .func (PySem.W.fnOf "_law_draw" "_law_draw" (defArgs s_law_draw) (defBody s_law_draw) (defScope s_law_draw) .none kV20 dc20 pm20 an20 cd20 ct20), sl20⟩) (c20 : PySem.W.codeIn K cd20 "_law_draw" = true) (k20 : PySem.W.keepIn K (.ref f20) = true)
    (a21 : PySem.W.nsIn K mainGlobals "_law_wide" = some (some (.ref f21)))
    (l21 : K.lookup f21 = some ⟨oc21, od21, .func (PySem.W.fnOf "_law_wide" "_law_wide" (defArgs s_law_wide) (defBody s_law_wide) (defScope s_law_wide) .none kV21 dc21 pm21 an21 cd21 ct21), sl21⟩) (c21 : PySem.W.codeIn K cd21 "_law_wide" = true) (k21 : PySem.W.keepIn K (.ref f21) = true)
    (a22 : PySem.W.nsIn K mainGlobals "_law_junk" = some (some (.ref f22)))
    (l22 : K.lookup f22 = some ⟨oc22, od22, .func (PySem.W.fnOf "_law_junk" "_law_junk" (defArgs s_law_junk) (defBody s_law_junk) (defScope s_law_junk) .none kV22 dc22 pm22 an22 cd22 ct22), sl22⟩) (c22 : PySem.W.codeIn K cd22 "_law_junk" = true) (k22 : PySem.W.keepIn K (.ref f22) = true)
    (a23 : PySem.W.nsIn K mainGlobals "_law_is_bytes" = some (some (.ref f23)))
    (l23 : K.lookup f23 = some ⟨oc23, od23, .func (PySem.W.fnOf "_law_is_bytes" "_law_is_bytes" (defArgs s_law_is_bytes) (defBody s_law_is_bytes) (defScope s_law_is_bytes) .none kV23 dc23 pm23 an23 cd23 ct23), sl23⟩) (c23 : PySem.W.codeIn K cd23 "_law_is_bytes" = true) (k23 : PySem.W.keepIn K (.ref f23) = true)
    (a24 : PySem.W.nsIn K mainGlobals "_law_number_bytes" = some (some (.ref f24)))
    (l24 : K.lookup f24 = some ⟨oc24, od24, .func (PySem.W.fnOf "_law_number_bytes" "_law_number_bytes" (defArgs s_law_number_bytes) (defBody s_law_number_bytes) (defScope s_law_number_bytes) .none kV24 dc24 pm24 an24 cd24 ct24), sl24⟩) (c24 : PySem.W.codeIn K cd24 "_law_number_bytes" = true) (k24 : PySem.W.keepIn K (.ref f24) = true)
    (a25 : PySem.W.nsIn K mainGlobals "_law_fields" = some (some (.ref f25)))
    (l25 : K.lookup f25 = some ⟨oc25, od25, .func (PySem.W.fnOf "_law_fields" "_law_fields" (defArgs s_law_fields) (defBody s_law_fields) (defScope s_law_fields) .none kV25 dc25 pm25 an25 cd25 ct25), sl25⟩) (c25 : PySem.W.codeIn K cd25 "_law_fields" = true) (k25 : PySem.W.keepIn K (.ref f25) = true)
    (a26 : PySem.W.nsIn K mainGlobals "_law_body" = some (some (.ref f26)))
    (l26 : K.lookup f26 = some ⟨oc26, od26, .func (PySem.W.fnOf "_law_body" "_law_body" (defArgs s_law_body) (defBody s_law_body) (defScope s_law_body) .none kV26 dc26 pm26 an26 cd26 ct26), sl26⟩) (c26 : PySem.W.codeIn K cd26 "_law_body" = true) (k26 : PySem.W.keepIn K (.ref f26) = true)
    (a27 : PySem.W.nsIn K mainGlobals "_law_made" = some (some (.ref f27)))
    (l27 : K.lookup f27 = some ⟨oc27, od27, .func (PySem.W.fnOf "_law_made" "_law_made" (defArgs s_law_made) (defBody s_law_made) (defScope s_law_made) .none kV27 dc27 pm27 an27 cd27 ct27), sl27⟩) (c27 : PySem.W.codeIn K cd27 "_law_made" = true) (k27 : PySem.W.keepIn K (.ref f27) = true)
    (a28 : PySem.W.nsIn K mainGlobals "_law_same" = some (some (.ref f28)))
    (l28 : K.lookup f28 = some ⟨oc28, od28, .func (PySem.W.fnOf "_law_same" "_law_same" (defArgs s_law_same) (defBody s_law_same) (defScope s_law_same) .none kV28 dc28 pm28 an28 cd28 ct28), sl28⟩) (c28 : PySem.W.codeIn K cd28 "_law_same" = true) (k28 : PySem.W.keepIn K (.ref f28) = true)
    (a29 : PySem.W.nsIn K mainGlobals "law" = some (some (.ref f29)))
    (l29 : K.lookup f29 = some ⟨oc29, od29, .func (PySem.W.fnOf "law" "law" (defArgs s_law) (defBody s_law) (defScope s_law) .none kV29 dc29 pm29 an29 cd29 ct29), sl29⟩) (c29 : PySem.W.codeIn K cd29 "law" = true) (k29 : PySem.W.keepIn K (.ref f29) = true)
    (aC_BitWriter : PySem.W.nsIn K mainGlobals "BitWriter" = some (some (.ref C_BitWriter)))
    (pg_BitWriter : PySem.W.plainGet K C_BitWriter Str.empty = true) (hd_BitWriter : PySem.W.hasDictIn K C_BitWriter = true) (po_BitWriter : PySem.W.plainOver K C_BitWriter = true) (sa_BitWriter : PySem.W.findIn K (.ref C_BitWriter) "__setattr__" = some (some (.builtin "object.__setattr__"))) (mk_BitWriter : PySem.W.makesIn K C_BitWriter = true) (kc_BitWriter : PySem.W.keepIn K (.ref C_BitWriter) = true)
    (n_BitWriter_whole : PySem.W.findIn K (.ref C_BitWriter) "_whole" = some none)
    (n_BitWriter_held : PySem.W.findIn K (.ref C_BitWriter) "_held" = some none)
    (n_BitWriter_held_bits : PySem.W.findIn K (.ref C_BitWriter) "_held_bits" = some none)
    (aC_BitReader : PySem.W.nsIn K mainGlobals "BitReader" = some (some (.ref C_BitReader)))
    (pg_BitReader : PySem.W.plainGet K C_BitReader Str.empty = true) (hd_BitReader : PySem.W.hasDictIn K C_BitReader = true) (po_BitReader : PySem.W.plainOver K C_BitReader = true) (sa_BitReader : PySem.W.findIn K (.ref C_BitReader) "__setattr__" = some (some (.builtin "object.__setattr__"))) (mk_BitReader : PySem.W.makesIn K C_BitReader = true) (kc_BitReader : PySem.W.keepIn K (.ref C_BitReader) = true)
    (n_BitReader_data : PySem.W.findIn K (.ref C_BitReader) "_data" = some none)
    (n_BitReader_position : PySem.W.findIn K (.ref C_BitReader) "_position" = some none)
    (aC_StreamInfo : PySem.W.nsIn K mainGlobals "StreamInfo" = some (some (.ref C_StreamInfo)))
    (pg_StreamInfo : PySem.W.plainGet K C_StreamInfo Str.empty = true) (hd_StreamInfo : PySem.W.hasDictIn K C_StreamInfo = true) (po_StreamInfo : PySem.W.plainOver K C_StreamInfo = true) (sa_StreamInfo : PySem.W.findIn K (.ref C_StreamInfo) "__setattr__" = some (some (.builtin "object.__setattr__"))) (mk_StreamInfo : PySem.W.makesIn K C_StreamInfo = true) (kc_StreamInfo : PySem.W.keepIn K (.ref C_StreamInfo) = true)
    (n_StreamInfo_least_block : PySem.W.findIn K (.ref C_StreamInfo) "least_block" = some none)
    (n_StreamInfo_greatest_block : PySem.W.findIn K (.ref C_StreamInfo) "greatest_block" = some none)
    (n_StreamInfo_least_frame : PySem.W.findIn K (.ref C_StreamInfo) "least_frame" = some none)
    (n_StreamInfo_greatest_frame : PySem.W.findIn K (.ref C_StreamInfo) "greatest_frame" = some none)
    (n_StreamInfo_rate : PySem.W.findIn K (.ref C_StreamInfo) "rate" = some none)
    (n_StreamInfo_channel_count : PySem.W.findIn K (.ref C_StreamInfo) "channel_count" = some none)
    (n_StreamInfo_depth : PySem.W.findIn K (.ref C_StreamInfo) "depth" = some none)
    (n_StreamInfo_length : PySem.W.findIn K (.ref C_StreamInfo) "length" = some none)
    (n_StreamInfo_digest : PySem.W.findIn K (.ref C_StreamInfo) "digest" = some none)
    (ty_StreamInfoha : PySem.W.findIn K (.ref C_StreamInfo) "__class__" = some (some (.builtin "object.__class__"))) (ty_StreamInfohn : PySem.W.specialIn K (.builtin "object.__class__") "__get__" = some (some (.builtin "getset_descriptor.__get__"))) (ty_StreamInfoht : PySem.W.takesIn K (.builtin "object.__class__") = some true) (ty_StreamInfohm : PySem.W.mroIn K C_StreamInfo (.type "object") = some true)
    (yt_StreamInfo : PySem.W.typeIn K (.ref C_StreamInfo) = some (.type "type"))
    (yz_StreamInfo : PySem.W.subIn K (.ref C_StreamInfo) (.ref C_StreamInfo) = some true)
    (ys_StreamInfo_int : PySem.W.subIn K (.type "int") (.ref C_StreamInfo) = some false)
    (ys_StreamInfo_tuple : PySem.W.subIn K (.type "tuple") (.ref C_StreamInfo) = some false)
    (aC_MonochordError : PySem.W.nsIn K mainGlobals "MonochordError" = some (some (.ref C_MonochordError)))
    (xl_MonochordError : K.lookup C_MonochordError = some (excClassObj xn_MonochordError xq_MonochordError C_MonochordError xN_MonochordError xb_MonochordError [.type "ValueError", .type "Exception", .type "BaseException", .type "object"] true xs_MonochordError xu_MonochordError xa_MonochordError xc_MonochordError xd_MonochordError xj0_MonochordError xj1_MonochordError (some (.str "MonochordError" xt_MonochordError)) xj3_MonochordError xj5_MonochordError "ValueError.__new__")) (xsa_MonochordError : PySem.W.findIn K (.ref C_MonochordError) "__setattr__" = some (some (.builtin "object.__setattr__"))) (xty_MonochordError : PySem.W.typeIn K (.ref C_MonochordError) = some (.type "type")) (xkc_MonochordError : PySem.W.keepIn K (.ref C_MonochordError) = true) (xic_MonochordError : PySem.W.findIn K (.ref C_MonochordError) "__init__" = some (some (.ref f1))) (xnp_MonochordError : PySem.W.findIn K (.ref C_MonochordError) "place" = some none) (xnn_MonochordError : PySem.W.findIn K (.ref C_MonochordError) "name" = some none) (xhg_MonochordError : PySem.W.findIn K (.ref C_MonochordError) "__getattribute__" = some (some (.builtin "BaseException.__getattribute__"))) (xhk_MonochordError : PySem.W.findIn K (.ref C_MonochordError) "__getattr__" = some none) (xhs_MonochordError : PySem.W.subIn K (.ref C_MonochordError) (.type "BaseException") = some true) (xhd_MonochordError : PySem.W.hasDictIn K C_MonochordError = true) (xha_MonochordError : PySem.W.findIn K (.ref C_MonochordError) "__class__" = some (some (.builtin "object.__class__"))) (xhn_MonochordError : PySem.W.specialIn K (.builtin "object.__class__") "__get__" = some (some (.builtin "getset_descriptor.__get__"))) (xht_MonochordError : PySem.W.takesIn K (.builtin "object.__class__") = some true) (xhm_MonochordError : PySem.W.mroIn K C_MonochordError (.type "object") = some true) (xrd_MonochordError : PySem.W.readsIn K C_MonochordError (.type "type") = true) (xfc_MonochordError : PySem.W.findCls K (.ref C_MonochordError) (.type "type") "__name__" = some (.get (.builtin "getset_descriptor.__get__") (.builtin "type.__name__") (.ref C_MonochordError) (.type "type")))
    (aC_Truncated : PySem.W.nsIn K mainGlobals "Truncated" = some (some (.ref C_Truncated)))
    (xl_Truncated : K.lookup C_Truncated = some (excClassObj xn_Truncated xq_Truncated C_Truncated xN_Truncated xb_Truncated [.ref C_MonochordError, .type "ValueError", .type "Exception", .type "BaseException", .type "object"] true xs_Truncated xu_Truncated xa_Truncated xc_Truncated xd_Truncated xj0_Truncated xj1_Truncated (some (.str "Truncated" xt_Truncated)) xj3_Truncated xj5_Truncated "ValueError.__new__")) (xsa_Truncated : PySem.W.findIn K (.ref C_Truncated) "__setattr__" = some (some (.builtin "object.__setattr__"))) (xty_Truncated : PySem.W.typeIn K (.ref C_Truncated) = some (.type "type")) (xkc_Truncated : PySem.W.keepIn K (.ref C_Truncated) = true) (xic_Truncated : PySem.W.findIn K (.ref C_Truncated) "__init__" = some (some (.ref f1))) (xnp_Truncated : PySem.W.findIn K (.ref C_Truncated) "place" = some none) (xnn_Truncated : PySem.W.findIn K (.ref C_Truncated) "name" = some none) (xhg_Truncated : PySem.W.findIn K (.ref C_Truncated) "__getattribute__" = some (some (.builtin "BaseException.__getattribute__"))) (xhk_Truncated : PySem.W.findIn K (.ref C_Truncated) "__getattr__" = some none) (xhs_Truncated : PySem.W.subIn K (.ref C_Truncated) (.type "BaseException") = some true) (xhd_Truncated : PySem.W.hasDictIn K C_Truncated = true) (xha_Truncated : PySem.W.findIn K (.ref C_Truncated) "__class__" = some (some (.builtin "object.__class__"))) (xhn_Truncated : PySem.W.specialIn K (.builtin "object.__class__") "__get__" = some (some (.builtin "getset_descriptor.__get__"))) (xht_Truncated : PySem.W.takesIn K (.builtin "object.__class__") = some true) (xhm_Truncated : PySem.W.mroIn K C_Truncated (.type "object") = some true) (xrd_Truncated : PySem.W.readsIn K C_Truncated (.type "type") = true) (xfc_Truncated : PySem.W.findCls K (.ref C_Truncated) (.type "type") "__name__" = some (.get (.builtin "getset_descriptor.__get__") (.builtin "type.__name__") (.ref C_Truncated) (.type "type")))
    (aC_InvalidForm : PySem.W.nsIn K mainGlobals "InvalidForm" = some (some (.ref C_InvalidForm)))
    (xl_InvalidForm : K.lookup C_InvalidForm = some (excClassObj xn_InvalidForm xq_InvalidForm C_InvalidForm xN_InvalidForm xb_InvalidForm [.ref C_MonochordError, .type "ValueError", .type "Exception", .type "BaseException", .type "object"] true xs_InvalidForm xu_InvalidForm xa_InvalidForm xc_InvalidForm xd_InvalidForm xj0_InvalidForm xj1_InvalidForm (some (.str "InvalidForm" xt_InvalidForm)) xj3_InvalidForm xj5_InvalidForm "ValueError.__new__")) (xsa_InvalidForm : PySem.W.findIn K (.ref C_InvalidForm) "__setattr__" = some (some (.builtin "object.__setattr__"))) (xty_InvalidForm : PySem.W.typeIn K (.ref C_InvalidForm) = some (.type "type")) (xkc_InvalidForm : PySem.W.keepIn K (.ref C_InvalidForm) = true) (xic_InvalidForm : PySem.W.findIn K (.ref C_InvalidForm) "__init__" = some (some (.ref f1))) (xnp_InvalidForm : PySem.W.findIn K (.ref C_InvalidForm) "place" = some none) (xnn_InvalidForm : PySem.W.findIn K (.ref C_InvalidForm) "name" = some none) (xhg_InvalidForm : PySem.W.findIn K (.ref C_InvalidForm) "__getattribute__" = some (some (.builtin "BaseException.__getattribute__"))) (xhk_InvalidForm : PySem.W.findIn K (.ref C_InvalidForm) "__getattr__" = some none) (xhs_InvalidForm : PySem.W.subIn K (.ref C_InvalidForm) (.type "BaseException") = some true) (xhd_InvalidForm : PySem.W.hasDictIn K C_InvalidForm = true) (xha_InvalidForm : PySem.W.findIn K (.ref C_InvalidForm) "__class__" = some (some (.builtin "object.__class__"))) (xhn_InvalidForm : PySem.W.specialIn K (.builtin "object.__class__") "__get__" = some (some (.builtin "getset_descriptor.__get__"))) (xht_InvalidForm : PySem.W.takesIn K (.builtin "object.__class__") = some true) (xhm_InvalidForm : PySem.W.mroIn K C_InvalidForm (.type "object") = some true) (xrd_InvalidForm : PySem.W.readsIn K C_InvalidForm (.type "type") = true) (xfc_InvalidForm : PySem.W.findCls K (.ref C_InvalidForm) (.type "type") "__name__" = some (.get (.builtin "getset_descriptor.__get__") (.builtin "type.__name__") (.ref C_InvalidForm) (.type "type")))
    (aC_Disagreement : PySem.W.nsIn K mainGlobals "Disagreement" = some (some (.ref C_Disagreement)))
    (xl_Disagreement : K.lookup C_Disagreement = some (excClassObj xn_Disagreement xq_Disagreement C_Disagreement xN_Disagreement xb_Disagreement [.ref C_MonochordError, .type "ValueError", .type "Exception", .type "BaseException", .type "object"] true xs_Disagreement xu_Disagreement xa_Disagreement xc_Disagreement xd_Disagreement xj0_Disagreement xj1_Disagreement (some (.str "Disagreement" xt_Disagreement)) xj3_Disagreement xj5_Disagreement "ValueError.__new__")) (xsa_Disagreement : PySem.W.findIn K (.ref C_Disagreement) "__setattr__" = some (some (.builtin "object.__setattr__"))) (xty_Disagreement : PySem.W.typeIn K (.ref C_Disagreement) = some (.type "type")) (xkc_Disagreement : PySem.W.keepIn K (.ref C_Disagreement) = true) (xic_Disagreement : PySem.W.findIn K (.ref C_Disagreement) "__init__" = some (some (.ref f1))) (xnp_Disagreement : PySem.W.findIn K (.ref C_Disagreement) "place" = some none) (xnn_Disagreement : PySem.W.findIn K (.ref C_Disagreement) "name" = some none) (xhg_Disagreement : PySem.W.findIn K (.ref C_Disagreement) "__getattribute__" = some (some (.builtin "BaseException.__getattribute__"))) (xhk_Disagreement : PySem.W.findIn K (.ref C_Disagreement) "__getattr__" = some none) (xhs_Disagreement : PySem.W.subIn K (.ref C_Disagreement) (.type "BaseException") = some true) (xhd_Disagreement : PySem.W.hasDictIn K C_Disagreement = true) (xha_Disagreement : PySem.W.findIn K (.ref C_Disagreement) "__class__" = some (some (.builtin "object.__class__"))) (xhn_Disagreement : PySem.W.specialIn K (.builtin "object.__class__") "__get__" = some (some (.builtin "getset_descriptor.__get__"))) (xht_Disagreement : PySem.W.takesIn K (.builtin "object.__class__") = some true) (xhm_Disagreement : PySem.W.mroIn K C_Disagreement (.type "object") = some true) (xrd_Disagreement : PySem.W.readsIn K C_Disagreement (.type "type") = true) (xfc_Disagreement : PySem.W.findCls K (.ref C_Disagreement) (.type "type") "__name__" = some (.get (.builtin "getset_descriptor.__get__") (.builtin "type.__name__") (.ref C_Disagreement) (.type "type")))
    (xti : PySem.W.typeIn K (.ref f1) = some (.type "function"))
    (xsv_MonochordError : PySem.W.subIn K (.ref C_MonochordError) (.type "ValueError") = some true)
    (xsu_MonochordError_MonochordError : PySem.W.subIn K (.ref C_MonochordError) (.ref C_MonochordError) = some true)
    (xsu_MonochordError_Truncated : PySem.W.subIn K (.ref C_MonochordError) (.ref C_Truncated) = some false)
    (xsu_MonochordError_InvalidForm : PySem.W.subIn K (.ref C_MonochordError) (.ref C_InvalidForm) = some false)
    (xsu_MonochordError_Disagreement : PySem.W.subIn K (.ref C_MonochordError) (.ref C_Disagreement) = some false)
    (xsv_Truncated : PySem.W.subIn K (.ref C_Truncated) (.type "ValueError") = some true)
    (xsu_Truncated_MonochordError : PySem.W.subIn K (.ref C_Truncated) (.ref C_MonochordError) = some true)
    (xsu_Truncated_Truncated : PySem.W.subIn K (.ref C_Truncated) (.ref C_Truncated) = some true)
    (xsu_Truncated_InvalidForm : PySem.W.subIn K (.ref C_Truncated) (.ref C_InvalidForm) = some false)
    (xsu_Truncated_Disagreement : PySem.W.subIn K (.ref C_Truncated) (.ref C_Disagreement) = some false)
    (xsv_InvalidForm : PySem.W.subIn K (.ref C_InvalidForm) (.type "ValueError") = some true)
    (xsu_InvalidForm_MonochordError : PySem.W.subIn K (.ref C_InvalidForm) (.ref C_MonochordError) = some true)
    (xsu_InvalidForm_Truncated : PySem.W.subIn K (.ref C_InvalidForm) (.ref C_Truncated) = some false)
    (xsu_InvalidForm_InvalidForm : PySem.W.subIn K (.ref C_InvalidForm) (.ref C_InvalidForm) = some true)
    (xsu_InvalidForm_Disagreement : PySem.W.subIn K (.ref C_InvalidForm) (.ref C_Disagreement) = some false)
    (xsv_Disagreement : PySem.W.subIn K (.ref C_Disagreement) (.type "ValueError") = some true)
    (xsu_Disagreement_MonochordError : PySem.W.subIn K (.ref C_Disagreement) (.ref C_MonochordError) = some true)
    (xsu_Disagreement_Truncated : PySem.W.subIn K (.ref C_Disagreement) (.ref C_Truncated) = some false)
    (xsu_Disagreement_InvalidForm : PySem.W.subIn K (.ref C_Disagreement) (.ref C_InvalidForm) = some false)
    (xsu_Disagreement_Disagreement : PySem.W.subIn K (.ref C_Disagreement) (.ref C_Disagreement) = some true)
    (z_list : PySem.W.nsIn K mainGlobals "list" = some none)
    (z_len : PySem.W.nsIn K mainGlobals "len" = some none)
    (z_range : PySem.W.nsIn K mainGlobals "range" = some none)
    (z_isinstance : PySem.W.nsIn K mainGlobals "isinstance" = some none)
    (z_int : PySem.W.nsIn K mainGlobals "int" = some none)
    (z_bool : PySem.W.nsIn K mainGlobals "bool" = some none)
    (z_all : PySem.W.nsIn K mainGlobals "all" = some none)
    (z_tuple : PySem.W.nsIn K mainGlobals "tuple" = some none)
    (q_LENGTH : PySem.W.nsIn K mainGlobals "_LENGTH" = some (some u_LENGTH)) (r_LENGTH : RelV (.int (34)) u_LENGTH)
    (q_LEAST_BLOCK : PySem.W.nsIn K mainGlobals "_LEAST_BLOCK" = some (some u_LEAST_BLOCK)) (r_LEAST_BLOCK : RelV (.int (16)) u_LEAST_BLOCK)
    (q_LEAST_DEPTH : PySem.W.nsIn K mainGlobals "_LEAST_DEPTH" = some (some u_LEAST_DEPTH)) (r_LEAST_DEPTH : RelV (.int (4)) u_LEAST_DEPTH)
    : ∃ fd : FuncData, (∀ (s : Shared) (v : Value), BindsTo s fd ⟨[v], []⟩ [("script", v)]) ∧ ∀ base : Heap, K.In base → base.Ns mainGlobals mg → FnOk l.prog w K mg base CX0 6 fa fd ["script"] (sp_law K) := by
  have e := hfa.symm.trans (PySem.W.mg_of X G a29)
  cases e
  have F1 := fun_mk (st := s_MonochordError_init) l1 c1 k1
  have b1 := F1.binds (ps := ["self", "place"]) fun _ _ _ _ _ _ us hl => match us, hl with | [_, _], _ => rfl
  have F2 := fun_mk (st := s_BitWriter_init) l2 c2 k2
  have b2 := F2.binds (ps := ["self"]) fun _ _ _ _ _ _ us hl => match us, hl with | [_], _ => rfl
  have F3 := fun_mk (st := s_BitWriter_write) l3 c3 k3
  have b3 := F3.binds (ps := ["self", "width", "value"]) fun _ _ _ _ _ _ us hl => match us, hl with | [_, _, _], _ => rfl
  have F4 := fun_mk (st := s_BitWriter_append_bytes) l4 c4 k4
  have b4 := F4.binds (ps := ["self", "data"]) fun _ _ _ _ _ _ us hl => match us, hl with | [_, _], _ => rfl
  have F5 := fun_mk (st := s_BitWriter_byte_list) l5 c5 k5
  have b5 := F5.binds (ps := ["self"]) fun _ _ _ _ _ _ us hl => match us, hl with | [_], _ => rfl
  have F6 : FunD K "__init__" "BitReader.__init__" (defArgs s_BitReader_init) (defBody s_BitReader_init) (defScope s_BitReader_init) [V.int 0] [] _ _ := ⟨⟨_, _, _, _, _, _, _, _, _, _, rfl, l6, c6, (.inr ⟨by simp, DT6, _, [du6_0], tn6, rfl, t6, rfl, (.cons rd6_0 .nil)⟩), (.inl rfl)⟩, k6⟩
  obtain ⟨e2_6, v2_6, b2_6⟩ := F6.binds1 (ps := ["self", "data", "at"]) 2 0 (by simp) rfl fun T0 kV doc pm an cdv ct us its hu hi => match us, hu, its, hi with | [_, _], _, [_], _ => ⟨_, rfl, rfl⟩
  have F7 := fun_mk (st := s_BitReader_read) l7 c7 k7
  have b7 := F7.binds (ps := ["self", "width"]) fun _ _ _ _ _ _ us hl => match us, hl with | [_, _], _ => rfl
  have F8 := fun_mk (st := s_BitReader_read_bytes) l8 c8 k8
  have b8 := F8.binds (ps := ["self", "count"]) fun _ _ _ _ _ _ us hl => match us, hl with | [_, _], _ => rfl
  have F9 := fun_mk (st := s_BitReader_byte_place) l9 c9 k9
  have b9 := F9.binds (ps := ["self"]) fun _ _ _ _ _ _ us hl => match us, hl with | [_], _ => rfl
  have F10 := fun_mk (st := s_BitReader_aligned) l10 c10 k10
  have b10 := F10.binds (ps := ["self"]) fun _ _ _ _ _ _ us hl => match us, hl with | [_], _ => rfl
  have F11 := fun_mk (st := s_StreamInfo_init) l11 c11 k11
  have b11 := F11.binds (ps := ["self", "least_block", "greatest_block", "least_frame", "greatest_frame", "rate", "channel_count", "depth", "length", "digest"]) fun _ _ _ _ _ _ us hl => match us, hl with | [_, _, _, _, _, _, _, _, _, _], _ => rfl
  have F12 := fun_mk (st := s_StreamInfo_fields) l12 c12 k12
  have b12 := F12.binds (ps := ["self"]) fun _ _ _ _ _ _ us hl => match us, hl with | [_], _ => rfl
  have F13 := fun_mk (st := s_StreamInfo_fixed_size) l13 c13 k13
  have b13 := F13.binds (ps := ["self"]) fun _ _ _ _ _ _ us hl => match us, hl with | [_], _ => rfl
  have F14 := fun_mk (st := s_StreamInfo_eq) l14 c14 k14
  have b14 := F14.binds (ps := ["self", "other"]) fun _ _ _ _ _ _ us hl => match us, hl with | [_, _], _ => rfl
  have F15 := fun_mk (st := s_read_streaminfo) l15 c15 k15
  have b15 := F15.binds (ps := ["data", "start", "stop"]) fun _ _ _ _ _ _ us hl => match us, hl with | [_, _, _], _ => rfl
  have F16 := fun_mk (st := s_write_streaminfo) l16 c16 k16
  have b16 := F16.binds (ps := ["info"]) fun _ _ _ _ _ _ us hl => match us, hl with | [_], _ => rfl
  have F17 := fun_mk (st := s_check_blocks) l17 c17 k17
  have b17 := F17.binds (ps := ["least_block", "greatest_block", "start"]) fun _ _ _ _ _ _ us hl => match us, hl with | [_, _, _], _ => rfl
  have F18 := fun_mk (st := s_law_is_integer) l18 c18 k18
  have b18 := F18.binds (ps := ["actual"]) fun _ _ _ _ _ _ us hl => match us, hl with | [_], _ => rfl
  have F19 := fun_mk (st := s_law_refill) l19 c19 k19
  have b19 := F19.binds (ps := ["script", "k"]) fun _ _ _ _ _ _ us hl => match us, hl with | [_, _], _ => rfl
  have F20 := fun_mk (st := s_law_draw) l20 c20 k20
  have b20 := F20.binds (ps := ["state", "script", "size"]) fun _ _ _ _ _ _ us hl => match us, hl with | [_, _, _], _ => rfl
  have F21 := fun_mk (st := s_law_wide) l21 c21 k21
  have b21 := F21.binds (ps := ["state", "script", "size"]) fun _ _ _ _ _ _ us hl => match us, hl with | [_, _, _], _ => rfl
  have F22 := fun_mk (st := s_law_junk) l22 c22 k22
  have b22 := F22.binds (ps := ["state", "script", "count"]) fun _ _ _ _ _ _ us hl => match us, hl with | [_, _, _], _ => rfl
  have F23 := fun_mk (st := s_law_is_bytes) l23 c23 k23
  have b23 := F23.binds (ps := ["actual"]) fun _ _ _ _ _ _ us hl => match us, hl with | [_], _ => rfl
  have F24 := fun_mk (st := s_law_number_bytes) l24 c24 k24
  have b24 := F24.binds (ps := ["number", "count"]) fun _ _ _ _ _ _ us hl => match us, hl with | [_, _], _ => rfl
  have F25 := fun_mk (st := s_law_fields) l25 c25 k25
  have b25 := F25.binds (ps := ["state", "script"]) fun _ _ _ _ _ _ us hl => match us, hl with | [_, _], _ => rfl
  have F26 := fun_mk (st := s_law_body) l26 c26 k26
  have b26 := F26.binds (ps := ["row"]) fun _ _ _ _ _ _ us hl => match us, hl with | [_], _ => rfl
  have F27 := fun_mk (st := s_law_made) l27 c27 k27
  have b27 := F27.binds (ps := ["row"]) fun _ _ _ _ _ _ us hl => match us, hl with | [_], _ => rfl
  have F28 := fun_mk (st := s_law_same) l28 c28 k28
  have b28 := F28.binds (ps := ["actual", "row"]) fun _ _ _ _ _ _ us hl => match us, hl with | [_, _], _ => rfl
  have F29 := fun_mk (st := s_law) l29 c29 k29
  have b29 := F29.binds (ps := ["script"]) fun _ _ _ _ _ _ us hl => match us, hl with | [_], _ => rfl
  let T : TX K mg := ⟨f1, _, F1, b1, f2, _, F2, b2, f3, _, F3, b3, f4, _, F4, b4, f5, _, F5, b5, f6, _, F6, e2_6, v2_6, b2_6, f7, _, F7, b7, f8, _, F8, b8, f9, _, F9, b9, f10, _, F10, b10, f11, _, F11, b11, f12, _, F12, b12, f13, _, F13, b13, f14, _, F14, b14, f15, _, F15, b15, (PySem.W.mg_of X G a15), f16, _, F16, b16, (PySem.W.mg_of X G a16), f17, _, F17, b17, (PySem.W.mg_of X G a17), f18, _, F18, b18, (PySem.W.mg_of X G a18), f19, _, F19, b19, (PySem.W.mg_of X G a19), f20, _, F20, b20, (PySem.W.mg_of X G a20), f21, _, F21, b21, (PySem.W.mg_of X G a21), f22, _, F22, b22, (PySem.W.mg_of X G a22), f23, _, F23, b23, (PySem.W.mg_of X G a23), f24, _, F24, b24, (PySem.W.mg_of X G a24), f25, _, F25, b25, (PySem.W.mg_of X G a25), f26, _, F26, b26, (PySem.W.mg_of X G a26), f27, _, F27, b27, (PySem.W.mg_of X G a27), f28, _, F28, b28, (PySem.W.mg_of X G a28), fa, _, F29, b29, (PySem.W.mg_of X G a29), C_BitWriter, ⟨pg_BitWriter, hd_BitWriter, po_BitWriter, sa_BitWriter⟩, (PySem.W.mg_of X G aC_BitWriter), ⟨mk_BitWriter, a2, i2, kc_BitWriter⟩, ⟨a3, i3, k3⟩, ⟨a4, i4, k4⟩, ⟨a5, i5, k5⟩, n_BitWriter_whole, n_BitWriter_held, n_BitWriter_held_bits, C_BitReader, ⟨pg_BitReader, hd_BitReader, po_BitReader, sa_BitReader⟩, (PySem.W.mg_of X G aC_BitReader), ⟨mk_BitReader, a6, i6, kc_BitReader⟩, ⟨a7, i7, k7⟩, ⟨a8, i8, k8⟩, ⟨a9, i9, k9⟩, ⟨a10, i10, k10⟩, n_BitReader_data, n_BitReader_position, C_StreamInfo, ⟨pg_StreamInfo, hd_StreamInfo, po_StreamInfo, sa_StreamInfo⟩, (PySem.W.mg_of X G aC_StreamInfo), ⟨mk_StreamInfo, a11, i11, kc_StreamInfo⟩, ⟨a12, i12, k12⟩, ⟨a13, i13, k13⟩, ⟨a14, i14, k14⟩, n_StreamInfo_least_block, n_StreamInfo_greatest_block, n_StreamInfo_least_frame, n_StreamInfo_greatest_frame, n_StreamInfo_rate, n_StreamInfo_channel_count, n_StreamInfo_depth, n_StreamInfo_length, n_StreamInfo_digest, ⟨ty_StreamInfoha, ty_StreamInfohn, ty_StreamInfoht, ty_StreamInfohm⟩, kit_self.1, kit_self.2, (kit_ty hd_StreamInfo yt_StreamInfo ys_StreamInfo_int).1, (kit_ty hd_StreamInfo yt_StreamInfo ys_StreamInfo_int).2, (kit_ty hd_StreamInfo yt_StreamInfo ys_StreamInfo_tuple).1, (kit_ty hd_StreamInfo yt_StreamInfo ys_StreamInfo_tuple).2, C_MonochordError, (PySem.W.mg_of X G aC_MonochordError), ⟨⟨_, _, _, _, _, _, _, _, _, _, _, _, _, _, _, xl_MonochordError, rfl⟩, xsa_MonochordError, xty_MonochordError, xkc_MonochordError, xic_MonochordError, xnp_MonochordError, xnn_MonochordError, ⟨xhg_MonochordError, xhk_MonochordError, xhs_MonochordError, xhd_MonochordError, xha_MonochordError, xhn_MonochordError, xht_MonochordError, xhm_MonochordError⟩, xrd_MonochordError, xfc_MonochordError⟩, C_Truncated, (PySem.W.mg_of X G aC_Truncated), ⟨⟨_, _, _, _, _, _, _, _, _, _, _, _, _, _, _, xl_Truncated, rfl⟩, xsa_Truncated, xty_Truncated, xkc_Truncated, xic_Truncated, xnp_Truncated, xnn_Truncated, ⟨xhg_Truncated, xhk_Truncated, xhs_Truncated, xhd_Truncated, xha_Truncated, xhn_Truncated, xht_Truncated, xhm_Truncated⟩, xrd_Truncated, xfc_Truncated⟩, C_InvalidForm, (PySem.W.mg_of X G aC_InvalidForm), ⟨⟨_, _, _, _, _, _, _, _, _, _, _, _, _, _, _, xl_InvalidForm, rfl⟩, xsa_InvalidForm, xty_InvalidForm, xkc_InvalidForm, xic_InvalidForm, xnp_InvalidForm, xnn_InvalidForm, ⟨xhg_InvalidForm, xhk_InvalidForm, xhs_InvalidForm, xhd_InvalidForm, xha_InvalidForm, xhn_InvalidForm, xht_InvalidForm, xhm_InvalidForm⟩, xrd_InvalidForm, xfc_InvalidForm⟩, C_Disagreement, (PySem.W.mg_of X G aC_Disagreement), ⟨⟨_, _, _, _, _, _, _, _, _, _, _, _, _, _, _, xl_Disagreement, rfl⟩, xsa_Disagreement, xty_Disagreement, xkc_Disagreement, xic_Disagreement, xnp_Disagreement, xnn_Disagreement, ⟨xhg_Disagreement, xhk_Disagreement, xhs_Disagreement, xhd_Disagreement, xha_Disagreement, xhn_Disagreement, xht_Disagreement, xhm_Disagreement⟩, xrd_Disagreement, xfc_Disagreement⟩, xti, xsv_MonochordError, xsu_MonochordError_MonochordError, xsu_MonochordError_Truncated, xsu_MonochordError_InvalidForm, xsu_MonochordError_Disagreement, xsv_Truncated, xsu_Truncated_MonochordError, xsu_Truncated_Truncated, xsu_Truncated_InvalidForm, xsu_Truncated_Disagreement, xsv_InvalidForm, xsu_InvalidForm_MonochordError, xsu_InvalidForm_Truncated, xsu_InvalidForm_InvalidForm, xsu_InvalidForm_Disagreement, xsv_Disagreement, xsu_Disagreement_MonochordError, xsu_Disagreement_Truncated, xsu_Disagreement_InvalidForm, xsu_Disagreement_Disagreement, (PySem.W.mg_none_of X G z_list), (PySem.W.mg_none_of X G z_len), (PySem.W.mg_none_of X G z_range), (PySem.W.mg_none_of X G z_isinstance), (PySem.W.mg_none_of X G z_int), (PySem.W.mg_none_of X G z_bool), (PySem.W.mg_none_of X G z_all), (PySem.W.mg_none_of X G z_tuple), u_LENGTH, (PySem.W.mg_of X G q_LENGTH), r_LENGTH, u_LEAST_BLOCK, (PySem.W.mg_of X G q_LEAST_BLOCK), r_LEAST_BLOCK, u_LEAST_DEPTH, (PySem.W.mg_of X G q_LEAST_DEPTH), r_LEAST_DEPTH⟩
  exact ⟨_, fun s v => .of_eq rfl, fun base _ _ => ok_law T⟩
end K43
open PySem PySem.W PyProof.Rows
set_option maxRecDepth 100000 in
set_option maxHeartbeats 0 in
theorem PySem.Challenge.cw_monochord_k43_stream_information_holds : PySem.Challenge.rw_monochord_k43_stream_information.Holds := by
  w_on; o_law; k_head; (case hw => w_witness2)
  k_fill
  refine L2.walk_of (l := PySem.Challenge.rw_monochord_k43_stream_information) (n := 63) (k := 6) (x := "script") (CX := fun _ => L2.CX0) (sp := fun w => K43.sp_law _) rfl (by decide) rfl ⟨rfl, by decide, by decide⟩ (fun w h Y => PySem.W.kIn_of Y) ?F (fun _ _ a ns hl _ hS => ⟨a, ns, rfl, hS, hl, fun _ => rfl⟩) (fun _ _ _ _ _ h => h)
  case F =>
    intro w mg fa h KX G hmg
    refine' K43.all_mk KX G hmg ?a1 ?i1 ?l1 ?c1 ?k1 ?a2 ?i2 ?l2 ?c2 ?k2 ?a3 ?i3 ?l3 ?c3 ?k3 ?a4 ?i4 ?l4 ?c4 ?k4 ?a5 ?i5 ?l5 ?c5 ?k5 ?a6 ?i6 ?l6 ?c6 ?k6 ?t6 ?rd6_0 ?a7 ?i7 ?l7 ?c7 ?k7 ?a8 ?i8 ?l8 ?c8 ?k8 ?a9 ?i9 ?l9 ?c9 ?k9 ?a10 ?i10 ?l10 ?c10 ?k10 ?a11 ?i11 ?l11 ?c11 ?k11 ?a12 ?i12 ?l12 ?c12 ?k12 ?a13 ?i13 ?l13 ?c13 ?k13 ?a14 ?i14 ?l14 ?c14 ?k14 ?a15 ?l15 ?c15 ?k15 ?a16 ?l16 ?c16 ?k16 ?a17 ?l17 ?c17 ?k17 ?a18 ?l18 ?c18 ?k18 ?a19 ?l19 ?c19 ?k19 ?a20 ?l20 ?c20 ?k20 ?a21 ?l21 ?c21 ?k21 ?a22 ?l22 ?c22 ?k22 ?a23 ?l23 ?c23 ?k23 ?a24 ?l24 ?c24 ?k24 ?a25 ?l25 ?c25 ?k25 ?a26 ?l26 ?c26 ?k26 ?a27 ?l27 ?c27 ?k27 ?a28 ?l28 ?c28 ?k28 ?a29 ?l29 ?c29 ?k29 ?aC_BitWriter ?pg_BitWriter ?hd_BitWriter ?po_BitWriter ?sa_BitWriter ?mk_BitWriter ?kc_BitWriter ?n_BitWriter_whole ?n_BitWriter_held ?n_BitWriter_held_bits ?aC_BitReader ?pg_BitReader ?hd_BitReader ?po_BitReader ?sa_BitReader ?mk_BitReader ?kc_BitReader ?n_BitReader_data ?n_BitReader_position ?aC_StreamInfo ?pg_StreamInfo ?hd_StreamInfo ?po_StreamInfo ?sa_StreamInfo ?mk_StreamInfo ?kc_StreamInfo ?n_StreamInfo_least_block ?n_StreamInfo_greatest_block ?n_StreamInfo_least_frame ?n_StreamInfo_greatest_frame ?n_StreamInfo_rate ?n_StreamInfo_channel_count ?n_StreamInfo_depth ?n_StreamInfo_length ?n_StreamInfo_digest ?ty_StreamInfoha ?ty_StreamInfohn ?ty_StreamInfoht ?ty_StreamInfohm ?yt_StreamInfo ?yz_StreamInfo ?ys_StreamInfo_int ?ys_StreamInfo_tuple ?aC_MonochordError ?xl_MonochordError ?xsa_MonochordError ?xty_MonochordError ?xkc_MonochordError ?xic_MonochordError ?xnp_MonochordError ?xnn_MonochordError ?xhg_MonochordError ?xhk_MonochordError ?xhs_MonochordError ?xhd_MonochordError ?xha_MonochordError ?xhn_MonochordError ?xht_MonochordError ?xhm_MonochordError ?xrd_MonochordError ?xfc_MonochordError ?aC_Truncated ?xl_Truncated ?xsa_Truncated ?xty_Truncated ?xkc_Truncated ?xic_Truncated ?xnp_Truncated ?xnn_Truncated ?xhg_Truncated ?xhk_Truncated ?xhs_Truncated ?xhd_Truncated ?xha_Truncated ?xhn_Truncated ?xht_Truncated ?xhm_Truncated ?xrd_Truncated ?xfc_Truncated ?aC_InvalidForm ?xl_InvalidForm ?xsa_InvalidForm ?xty_InvalidForm ?xkc_InvalidForm ?xic_InvalidForm ?xnp_InvalidForm ?xnn_InvalidForm ?xhg_InvalidForm ?xhk_InvalidForm ?xhs_InvalidForm ?xhd_InvalidForm ?xha_InvalidForm ?xhn_InvalidForm ?xht_InvalidForm ?xhm_InvalidForm ?xrd_InvalidForm ?xfc_InvalidForm ?aC_Disagreement ?xl_Disagreement ?xsa_Disagreement ?xty_Disagreement ?xkc_Disagreement ?xic_Disagreement ?xnp_Disagreement ?xnn_Disagreement ?xhg_Disagreement ?xhk_Disagreement ?xhs_Disagreement ?xhd_Disagreement ?xha_Disagreement ?xhn_Disagreement ?xht_Disagreement ?xhm_Disagreement ?xrd_Disagreement ?xfc_Disagreement ?xti ?xsv_MonochordError ?xsu_MonochordError_MonochordError ?xsu_MonochordError_Truncated ?xsu_MonochordError_InvalidForm ?xsu_MonochordError_Disagreement ?xsv_Truncated ?xsu_Truncated_MonochordError ?xsu_Truncated_Truncated ?xsu_Truncated_InvalidForm ?xsu_Truncated_Disagreement ?xsv_InvalidForm ?xsu_InvalidForm_MonochordError ?xsu_InvalidForm_Truncated ?xsu_InvalidForm_InvalidForm ?xsu_InvalidForm_Disagreement ?xsv_Disagreement ?xsu_Disagreement_MonochordError ?xsu_Disagreement_Truncated ?xsu_Disagreement_InvalidForm ?xsu_Disagreement_Disagreement ?z_list ?z_len ?z_range ?z_isinstance ?z_int ?z_bool ?z_all ?z_tuple ?q_LENGTH ?r_LENGTH ?q_LEAST_BLOCK ?r_LEAST_BLOCK ?q_LEAST_DEPTH ?r_LEAST_DEPTH
    (case aC_BitWriter => k_is)
    (case aC_BitReader => k_is)
    (case aC_StreamInfo => k_is)
    (case aC_MonochordError => k_is)
    (case aC_Truncated => k_is)
    (case aC_InvalidForm => k_is)
    (case aC_Disagreement => k_is)
    (case a1 => k_is)
    (case i1 => k_is)
    (case l1 => k_is)
    (case c1 => k_is)
    (case k1 => k_is)
    (case a2 => k_is)
    (case i2 => k_is)
    (case l2 => k_is)
    (case c2 => k_is)
    (case k2 => k_is)
    (case a3 => k_is)
    (case i3 => k_is)
    (case l3 => k_is)
    (case c3 => k_is)
    (case k3 => k_is)
    (case a4 => k_is)
    (case i4 => k_is)
    (case l4 => k_is)
    (case c4 => k_is)
    (case k4 => k_is)
    (case a5 => k_is)
    (case i5 => k_is)
    (case l5 => k_is)
    (case c5 => k_is)
    (case k5 => k_is)
    (case a6 => k_is)
    (case i6 => k_is)
    (case l6 => k_is)
    (case c6 => k_is)
    (case k6 => k_is)
    (case t6 => k_is)
    (case rd6_0 => first | rfl | exact ⟨_, rfl⟩)
    (case a7 => k_is)
    (case i7 => k_is)
    (case l7 => k_is)
    (case c7 => k_is)
    (case k7 => k_is)
    (case a8 => k_is)
    (case i8 => k_is)
    (case l8 => k_is)
    (case c8 => k_is)
    (case k8 => k_is)
    (case a9 => k_is)
    (case i9 => k_is)
    (case l9 => k_is)
    (case c9 => k_is)
    (case k9 => k_is)
    (case a10 => k_is)
    (case i10 => k_is)
    (case l10 => k_is)
    (case c10 => k_is)
    (case k10 => k_is)
    (case a11 => k_is)
    (case i11 => k_is)
    (case l11 => k_is)
    (case c11 => k_is)
    (case k11 => k_is)
    (case a12 => k_is)
    (case i12 => k_is)
    (case l12 => k_is)
    (case c12 => k_is)
    (case k12 => k_is)
    (case a13 => k_is)
    (case i13 => k_is)
    (case l13 => k_is)
    (case c13 => k_is)
    (case k13 => k_is)
    (case a14 => k_is)
    (case i14 => k_is)
    (case l14 => k_is)
    (case c14 => k_is)
    (case k14 => k_is)
    (case a15 => k_is)
    (case l15 => k_is)
    (case c15 => k_is)
    (case k15 => k_is)
    (case a16 => k_is)
    (case l16 => k_is)
    (case c16 => k_is)
    (case k16 => k_is)
    (case a17 => k_is)
    (case l17 => k_is)
    (case c17 => k_is)
    (case k17 => k_is)
    (case a18 => k_is)
    (case l18 => k_is)
    (case c18 => k_is)
    (case k18 => k_is)
    (case a19 => k_is)
    (case l19 => k_is)
    (case c19 => k_is)
    (case k19 => k_is)
    (case a20 => k_is)
    (case l20 => k_is)
    (case c20 => k_is)
    (case k20 => k_is)
    (case a21 => k_is)
    (case l21 => k_is)
    (case c21 => k_is)
    (case k21 => k_is)
    (case a22 => k_is)
    (case l22 => k_is)
    (case c22 => k_is)
    (case k22 => k_is)
    (case a23 => k_is)
    (case l23 => k_is)
    (case c23 => k_is)
    (case k23 => k_is)
    (case a24 => k_is)
    (case l24 => k_is)
    (case c24 => k_is)
    (case k24 => k_is)
    (case a25 => k_is)
    (case l25 => k_is)
    (case c25 => k_is)
    (case k25 => k_is)
    (case a26 => k_is)
    (case l26 => k_is)
    (case c26 => k_is)
    (case k26 => k_is)
    (case a27 => k_is)
    (case l27 => k_is)
    (case c27 => k_is)
    (case k27 => k_is)
    (case a28 => k_is)
    (case l28 => k_is)
    (case c28 => k_is)
    (case k28 => k_is)
    (case a29 => k_is)
    (case l29 => k_is)
    (case c29 => k_is)
    (case k29 => k_is)
    (case pg_BitWriter => k_is)
    (case hd_BitWriter => k_is)
    (case po_BitWriter => k_is)
    (case sa_BitWriter => k_is)
    (case mk_BitWriter => k_is)
    (case kc_BitWriter => k_is)
    (case n_BitWriter_whole => k_is)
    (case n_BitWriter_held => k_is)
    (case n_BitWriter_held_bits => k_is)
    (case pg_BitReader => k_is)
    (case hd_BitReader => k_is)
    (case po_BitReader => k_is)
    (case sa_BitReader => k_is)
    (case mk_BitReader => k_is)
    (case kc_BitReader => k_is)
    (case n_BitReader_data => k_is)
    (case n_BitReader_position => k_is)
    (case pg_StreamInfo => k_is)
    (case hd_StreamInfo => k_is)
    (case po_StreamInfo => k_is)
    (case sa_StreamInfo => k_is)
    (case mk_StreamInfo => k_is)
    (case kc_StreamInfo => k_is)
    (case n_StreamInfo_least_block => k_is)
    (case n_StreamInfo_greatest_block => k_is)
    (case n_StreamInfo_least_frame => k_is)
    (case n_StreamInfo_greatest_frame => k_is)
    (case n_StreamInfo_rate => k_is)
    (case n_StreamInfo_channel_count => k_is)
    (case n_StreamInfo_depth => k_is)
    (case n_StreamInfo_length => k_is)
    (case n_StreamInfo_digest => k_is)
    (case ty_StreamInfoha => k_is)
    (case ty_StreamInfohn => k_is)
    (case ty_StreamInfoht => k_is)
    (case ty_StreamInfohm => k_is)
    (case yt_StreamInfo => k_is)
    (case yz_StreamInfo => k_is)
    (case ys_StreamInfo_int => k_is)
    (case ys_StreamInfo_tuple => k_is)
    (case xl_MonochordError => k_is)
    (case xsa_MonochordError => k_is)
    (case xty_MonochordError => k_is)
    (case xkc_MonochordError => k_is)
    (case xic_MonochordError => k_is)
    (case xnp_MonochordError => k_is)
    (case xnn_MonochordError => k_is)
    (case xhg_MonochordError => k_is)
    (case xhk_MonochordError => k_is)
    (case xhs_MonochordError => k_is)
    (case xhd_MonochordError => k_is)
    (case xha_MonochordError => k_is)
    (case xhn_MonochordError => k_is)
    (case xht_MonochordError => k_is)
    (case xhm_MonochordError => k_is)
    (case xrd_MonochordError => k_is)
    (case xfc_MonochordError => k_is)
    (case xl_Truncated => k_is)
    (case xsa_Truncated => k_is)
    (case xty_Truncated => k_is)
    (case xkc_Truncated => k_is)
    (case xic_Truncated => k_is)
    (case xnp_Truncated => k_is)
    (case xnn_Truncated => k_is)
    (case xhg_Truncated => k_is)
    (case xhk_Truncated => k_is)
    (case xhs_Truncated => k_is)
    (case xhd_Truncated => k_is)
    (case xha_Truncated => k_is)
    (case xhn_Truncated => k_is)
    (case xht_Truncated => k_is)
    (case xhm_Truncated => k_is)
    (case xrd_Truncated => k_is)
    (case xfc_Truncated => k_is)
    (case xl_InvalidForm => k_is)
    (case xsa_InvalidForm => k_is)
    (case xty_InvalidForm => k_is)
    (case xkc_InvalidForm => k_is)
    (case xic_InvalidForm => k_is)
    (case xnp_InvalidForm => k_is)
    (case xnn_InvalidForm => k_is)
    (case xhg_InvalidForm => k_is)
    (case xhk_InvalidForm => k_is)
    (case xhs_InvalidForm => k_is)
    (case xhd_InvalidForm => k_is)
    (case xha_InvalidForm => k_is)
    (case xhn_InvalidForm => k_is)
    (case xht_InvalidForm => k_is)
    (case xhm_InvalidForm => k_is)
    (case xrd_InvalidForm => k_is)
    (case xfc_InvalidForm => k_is)
    (case xl_Disagreement => k_is)
    (case xsa_Disagreement => k_is)
    (case xty_Disagreement => k_is)
    (case xkc_Disagreement => k_is)
    (case xic_Disagreement => k_is)
    (case xnp_Disagreement => k_is)
    (case xnn_Disagreement => k_is)
    (case xhg_Disagreement => k_is)
    (case xhk_Disagreement => k_is)
    (case xhs_Disagreement => k_is)
    (case xhd_Disagreement => k_is)
    (case xha_Disagreement => k_is)
    (case xhn_Disagreement => k_is)
    (case xht_Disagreement => k_is)
    (case xhm_Disagreement => k_is)
    (case xrd_Disagreement => k_is)
    (case xfc_Disagreement => k_is)
    (case xti => k_is)
    (case xsv_MonochordError => k_is)
    (case xsu_MonochordError_MonochordError => k_is)
    (case xsu_MonochordError_Truncated => k_is)
    (case xsu_MonochordError_InvalidForm => k_is)
    (case xsu_MonochordError_Disagreement => k_is)
    (case xsv_Truncated => k_is)
    (case xsu_Truncated_MonochordError => k_is)
    (case xsu_Truncated_Truncated => k_is)
    (case xsu_Truncated_InvalidForm => k_is)
    (case xsu_Truncated_Disagreement => k_is)
    (case xsv_InvalidForm => k_is)
    (case xsu_InvalidForm_MonochordError => k_is)
    (case xsu_InvalidForm_Truncated => k_is)
    (case xsu_InvalidForm_InvalidForm => k_is)
    (case xsu_InvalidForm_Disagreement => k_is)
    (case xsv_Disagreement => k_is)
    (case xsu_Disagreement_MonochordError => k_is)
    (case xsu_Disagreement_Truncated => k_is)
    (case xsu_Disagreement_InvalidForm => k_is)
    (case xsu_Disagreement_Disagreement => k_is)
    (case z_list => k_is)
    (case z_len => k_is)
    (case z_range => k_is)
    (case z_isinstance => k_is)
    (case z_int => k_is)
    (case z_bool => k_is)
    (case z_all => k_is)
    (case z_tuple => k_is)
    (case q_LENGTH => k_is)
    (case r_LENGTH => first | rfl | exact ⟨_, rfl⟩)
    (case q_LEAST_BLOCK => k_is)
    (case r_LEAST_BLOCK => first | rfl | exact ⟨_, rfl⟩)
    (case q_LEAST_DEPTH => k_is)
    (case r_LEAST_DEPTH => first | rfl | exact ⟨_, rfl⟩)
