import PyProof.Rows.All
import Wide.All
import OpenK.AllK
import Wide.FinOn
import HandS.ForMost
import HandS.Steps
import HandS.Evl
import HandS.IsInst
import HandS.Defaults
import HandS.Wide
import HandS.WideBits
import HandS.ForExc
import HandS.ExcInit
import HandS.ExcIs
import HandS.ExcField
import HandS.ExcOwn
import HandS.ExcBuiltin
import HandS.WordsExc
import KE.KTypeName
import PySem.Challenge.RW_monochord_k02_fields_of_a_reader
set_option Elab.async false
set_option linter.all false
set_option maxRecDepth 100000
set_option maxHeartbeats 4000000
/-! ### own errors: the class's name, an error's class, its fields, isinstance -/
namespace PySem
namespace ExqW
open PySem.W PySem.Calls PyProof.Rows Builtin Builtin.ObjectAttr Builtin.Getset_descriptor
section
variable {prog : Program} {w : World} {A : Around} {E : Value → Shared → Prop} {s : Shared} {K : Frag} {x D C : Addr} {ox : Obj} {R : Result → Shared → Prop}
theorem exq_class {od : Option Obj} {expr : Bool} {Q : Value → Shared → Prop} (hga : findIn K (.ref D) "__getattribute__" = some (some (.builtin "BaseException.__getattribute__"))) (hgt : findIn K (.ref D) "__getattr__" = some none) (hsub : subIn K (.ref D) (.type "BaseException") = some true)
    (hf : findObj K D od "__class__" = some (.bind (.builtin "getset_descriptor.__get__") (.builtin "object.__class__"))) (hm : mroIn K D (.type "object") = some true)
    (X : K.In s.heap) (I : InstAt s.heap x ox D od) (h : Q (.ref D) { s with toks := s.toks + 1 }) : wpAny (model prog w) A (getAttr (.ref x) "__class__" expr) Q E s := by
  obtain ⟨hp, g, d, t, os⟩ := s
  have L0 := I.type (M := model prog w)
  have L1 := looks_findIn (M := model prog w) X hga
  have L2 := looks_findIn (M := model prog w) X hgt
  have L3 := looks_find (M := model prog w) X I hf
  have sub : Looks (model prog w) hp (isInstance (.ref x) (.type "BaseException")) true := L0.andThen (looks_subIn X hsub)
  have hx0 : (expr && onTheHeap (Value.builtin "BaseException.__getattribute__")) = false := by cases expr <;> rfl
  have hx2 : (Value.builtin "BaseException.__getattribute__" == Value.builtin "object.__getattribute__") = false := by decide +kernel
  have hx1 : (onTheHeap (Value.ref D) && Value.builtin "BaseException.__getattribute__" == Value.builtin "object.__getattribute__") = false := by rw [hx2]; rfl
  unfold getAttr getAttrBy
  refine wpAny_bind (wpAny_mkText (wpAny_holding (wpAny_bind (L0.at (wpAny_bind (L1.at ?_))))))
  show wpAny _ _ (if (onTheHeap (Value.ref D) && Value.builtin "BaseException.__getattribute__" == Value.builtin "object.__getattribute__") = true then _ else _) _ _ _
  rw [hx1, if_neg Bool.false_ne_true]
  unfold getAttrByItsOwn hookBefore
  refine wpAny_bind ?_
  rw [if_pos (show onTheHeap (Value.ref D) = true from rfl)]
  refine L2.at ?_
  refine wpAny_bind (wpAny_attempt (wpAny_holding ?_))
  unfold callGetattribute
  rw [hx0, if_neg Bool.false_ne_true]
  unfold boundAndCalled
  rw [PySem.F.excAttr_ValueError.ga.bind (.ref x)]
  refine wpAny_bind (wpAny_pure ?_)
  show wpAny _ _ (call (.builtin "BaseException.__getattribute__") [.ref x, .str "__class__" t]) _ _ _
  refine wpAny_call (codeAny_call_builtin PySem.F.excAttr_ValueError.ga.plain PySem.F.entry_bexc_ga ?_)
  refine @check_slot (model prog w) _ _ ⟨hp, g, d, t + 1, os⟩ "BaseException.__getattribute__" "BaseException" "__getattribute__" (.ref x) [.str "__class__" t] [] _ (by decide +kernel) (by decide +kernel) sub (PySem.F.args_bexc_ga (.ref x) (.str "__class__" t)) ?_
  unfold Builtin.«object.__getattribute__»
  refine wpAny_bind (wpAny_of_eq (a := ((Value.ref x : Value), [Value.str "__class__" t])) (by first | rfl | (simp only [slotArgs]; rfl)) ?_)
  refine wpAny_bind (wpAny_pure (wpAny_bind (L0.at (wpAny_bind (L3.at ?_)))))
  show wpAny _ _ (holding [Value.builtin "object.__class__"] (call (.builtin "getset_descriptor.__get__") [.builtin "object.__class__", .ref x, .ref D]) >>= ret) _ _ _
  refine wpAny_bind (wpAny_holding (wpAny_call (class_get (s := ⟨hp, g, d, t + 1, os⟩) (ox := ox) (od := od) X I hm ?_)))
  refine wpAny_pure ?_
  show wpAny _ _ (handedOut (.ref D)) _ _ _
  rw [handedOut_of (v := .ref D) rfl]
  first
    | exact wpAny_pure (wpAny_pure h)
    | exact wpAny_pure h
    | exact wpAny_pure (wpAny_bind (wpAny_pure (wpAny_pure h)))
theorem exq_classQ {od : Option Obj} {Q : Option Value → Shared → Prop} (hga : findIn K (.ref D) "__getattribute__" = some (some (.builtin "BaseException.__getattribute__"))) (hgt : findIn K (.ref D) "__getattr__" = some none) (hsub : subIn K (.ref D) (.type "BaseException") = some true)
    (hf : findObj K D od "__class__" = some (.bind (.builtin "getset_descriptor.__get__") (.builtin "object.__class__"))) (hm : mroIn K D (.type "object") = some true)
    (X : K.In s.heap) (I : InstAt s.heap x ox D od) (h : Q (some (.ref D)) { s with toks := s.toks + 1 }) : wpAny (model prog w) A (getAttr? (.ref x) "__class__") Q E s := by
  obtain ⟨hp, g, d, t, os⟩ := s
  have L0 := I.type (M := model prog w)
  have L1 := looks_findIn (M := model prog w) X hga
  have L2 := looks_findIn (M := model prog w) X hgt
  have L3 := looks_find (M := model prog w) X I hf
  have sub : Looks (model prog w) hp (isInstance (.ref x) (.type "BaseException")) true := L0.andThen (looks_subIn X hsub)
  have hx0 : (false && onTheHeap (Value.builtin "BaseException.__getattribute__")) = false := rfl
  have hx2 : (Value.builtin "BaseException.__getattribute__" == Value.builtin "object.__getattribute__") = false := by decide +kernel
  have hx1 : (onTheHeap (Value.ref D) && Value.builtin "BaseException.__getattribute__" == Value.builtin "object.__getattribute__") = false := by rw [hx2]; rfl
  unfold getAttr? getAttrBy? getAttrBy
  refine wpAny_bind (wpAny_mkText (wpAny_bind (wpAny_attempt (wpAny_holding (wpAny_bind (L0.at (wpAny_bind (L1.at ?_))))))))
  show wpAny _ _ (if (onTheHeap (Value.ref D) && Value.builtin "BaseException.__getattribute__" == Value.builtin "object.__getattribute__") = true then _ else _) _ _ _
  rw [hx1, if_neg Bool.false_ne_true]
  unfold getAttrByItsOwn hookBefore
  refine wpAny_bind ?_
  rw [if_pos (show onTheHeap (Value.ref D) = true from rfl)]
  refine L2.at ?_
  refine wpAny_bind (wpAny_attempt (wpAny_holding ?_))
  unfold callGetattribute
  rw [hx0, if_neg Bool.false_ne_true]
  unfold boundAndCalled
  rw [PySem.F.excAttr_ValueError.ga.bind (.ref x)]
  refine wpAny_bind (wpAny_pure ?_)
  show wpAny _ _ (call (.builtin "BaseException.__getattribute__") [.ref x, .str "__class__" t]) _ _ _
  refine wpAny_call (codeAny_call_builtin PySem.F.excAttr_ValueError.ga.plain PySem.F.entry_bexc_ga ?_)
  refine @check_slot (model prog w) _ _ ⟨hp, g, d, t + 1, os⟩ "BaseException.__getattribute__" "BaseException" "__getattribute__" (.ref x) [.str "__class__" t] [] _ (by decide +kernel) (by decide +kernel) sub (PySem.F.args_bexc_ga (.ref x) (.str "__class__" t)) ?_
  unfold Builtin.«object.__getattribute__»
  refine wpAny_bind (wpAny_of_eq (a := ((Value.ref x : Value), [Value.str "__class__" t])) (by first | rfl | (simp only [slotArgs]; rfl)) ?_)
  refine wpAny_bind (wpAny_pure (wpAny_bind (L0.at (wpAny_bind (L3.at ?_)))))
  show wpAny _ _ (holding [Value.builtin "object.__class__"] (call (.builtin "getset_descriptor.__get__") [.builtin "object.__class__", .ref x, .ref D]) >>= ret) _ _ _
  refine wpAny_bind (wpAny_holding (wpAny_call (class_get (s := ⟨hp, g, d, t + 1, os⟩) (ox := ox) (od := od) X I hm ?_)))
  refine wpAny_pure ?_
  show wpAny _ _ (handedOut (.ref D)) _ _ _
  rw [handedOut_of (v := .ref D) rfl]
  first
    | exact wpAny_pure (wpAny_pure h)
    | exact wpAny_pure h
    | exact wpAny_pure (wpAny_bind (wpAny_pure (wpAny_pure h)))
theorem exq_dga (d tp : Value) (C : Addr) : descrGetArgs ⟨[d, .ref C, tp], []⟩ = pure (d, some (.ref C), given tp) := by kernel_rfl
theorem exq_name_get {tp v : Value} {oC : Obj} (X : K.In s.heap) (ht : typeIn K (.ref C) = some (.type "type")) (hC : K.lookup C = some oC) (hv : (oC.slots[2]?).join = some v) (h : R (.ok (.ret v)) s) :
    codeAny (model prog w) A (.call (.builtin "getset_descriptor.__get__") ⟨[.builtin "type.__name__", .ref C, tp], []⟩) R s := by
  obtain ⟨hh, g, dr, t, os⟩ := s
  have L0 : Looks (model prog w) hh (typeOf (.ref C)) (.type "type") := looks_typeIn X ht
  have L1 : Looks (model prog w) hh (isSubtype (.type "type") (.type "type")) true := Looks.of_pure (by rw [isSubtype_type]; kernel_rfl)
  refine codeAny_call_builtin KF.slot_gs.plain KF.entry_gs (KF.slot_gs.check _ _ _ _ _ _ _ _ ktyn_type (KF.args_gs _ _ _) ?_)
  unfold Builtin.«getset_descriptor.__get__» descrGet
  rw [exq_dga]
  refine wpAny_bind (wpAny_pure ?_)
  unfold descrGetter descrCheckInstance descrNameAndClass isInstance
  simp only [ktyn_owner]
  repeat lk
  refine ⟨Code.quiet_builtin _ (by decide +kernel), codeAny_builtin ktyn_entry ?_⟩
  unfold Builtin.«type.__name__»
  dsimp only
  unfold Builtin.keptObject slotAt
  dsimp only
  refine wpAny_bind (wpAny_bind (wpAny_loadPart (X _ _ hC) (wpAny_pure ?_)))
  rw [hv]
  dsimp only
  unfold ret
  first
    | exact wpAny_bind (wpAny_pure (wpAny_pure h))
    | exact wpAny_pure h
    | exact wpAny_bind (wpAny_pure h)
theorem exq_name {oC : Obj} {v : Value} {expr : Bool} {Q : Value → Shared → Prop} (X : K.In s.heap) (hr : readsIn K C (.type "type") = true)
    (e : findCls K (.ref C) (.type "type") "__name__" = some (.get (.builtin "getset_descriptor.__get__") (.builtin "type.__name__") (.ref C) (.type "type"))) (ht : typeIn K (.ref C) = some (.type "type")) (hC : K.lookup C = some oC) (hv : (oC.slots[2]?).join = some v) (hh : handedIn v = true)
    (h : Q v { s with toks := s.toks + 1 }) : wpAny (model prog w) A (getAttr (.ref C) "__name__" expr) Q E s :=
  cls_bind X hr e (wpAny_call (exq_name_get (s := { s with toks := s.toks + 1 }) X ht hC hv (handed_on hh h)))
theorem exq_kitx {od : Option Obj} (hga : findIn K (.ref D) "__getattribute__" = some (some (.builtin "BaseException.__getattribute__"))) (hgt : findIn K (.ref D) "__getattr__" = some none) (hsub : subIn K (.ref D) (.type "BaseException") = some true) (hdct : hasDictIn K D = true)
    (hf : findObj K D od "__class__" = some (.bind (.builtin "getset_descriptor.__get__") (.builtin "object.__class__"))) (hm : mroIn K D (.type "object") = some true) :
    KitX K (.ref x) (.ref D) (fun h => InstAt h x ox D od) where
  ty := fun _ _ _ I => I.type
  it := fun _ _ X _ => by
    obtain ⟨cdD, hcD, _⟩ := any_some hdct
    unfold clsIn at hcD
    split at hcD
    · rename_i c' d' cd' sl' ho
      intro A' Q' E' s' k q
      unfold isType loadHead
      exact wpAny_bind (wpAny_loadPart (k _ _ (X _ _ ho)) (wpAny_pure q))
    · cases hcD
  ne := fun h tp dd its n sl X htp => by
    obtain ⟨cdD, hcD, _⟩ := any_some hdct
    refine Bool.eq_false_iff.mpr fun q => ?_
    have e : D = tp := Value.ref.inj (beq_iff_eq.mp q)
    subst e
    unfold clsIn at hcD
    split at hcD
    · rename_i c' d' cd' sl' ho
      have z := (X _ _ ho).symm.trans htp
      cases z
    · cases hcD
  ca := fun X I k => exq_classQ hga hgt hsub hf hm X I k
end
end ExqW
end PySem
namespace L2
open PySem PySem.Spec PyProof.Rows
/-- what the written part says of an own error class at C (its name nm), whose __init__ stands at fI -/
structure ExK (K : PySem.W.Frag) (C fI : Addr) (nm : Str) : Prop where
  cls : ∃ n q N bs bm sn sub ab col dd k0 k1 tk k3 k5, K.lookup C = some (excClassObj n q C N bs bm true sn sub ab col dd k0 k1 (some (.str nm tk)) k3 k5 "ValueError.__new__") ∧ PySem.HandSPX.refsVE bm = true
  sa : PySem.W.findIn K (.ref C) "__setattr__" = some (some (.builtin "object.__setattr__"))
  tyC : PySem.W.typeIn K (.ref C) = some (.type "type")
  kC : PySem.W.keepIn K (.ref C) = true
  iC : PySem.W.findIn K (.ref C) "__init__" = some (some (.ref fI))
  nP : PySem.W.findIn K (.ref C) "place" = some none
  nN : PySem.W.findIn K (.ref C) "name" = some none
  ex : ExcC K C
  rd : PySem.W.readsIn K C (.type "type") = true
  fc : PySem.W.findCls K (.ref C) (.type "type") "__name__" = some (.get (.builtin "getset_descriptor.__get__") (.builtin "type.__name__") (.ref C) (.type "type"))
section
variable {K : PySem.W.Frag} {C fI : Addr} {nm : Str}
theorem ExK.ox (T : ExK K C fI nm) : OexC K C := by
  obtain ⟨n, q, N, bs, bm, sn, sub, ab, col, dd, k0, k1, tk, k3, k5, h1, h2⟩ := T.cls
  exact ⟨⟨n, q, N, bs, bm, sn, sub, ab, col, dd, k0, k1, _, k3, k5, h1, h2⟩, T.sa, T.ex.hs, T.tyC, T.kC⟩
theorem ExK.xf (T : ExK K C fI nm) : XfC K C := ⟨T.ex.hg, T.ex.hk, T.ex.hs, T.ex.hd⟩
end
theorem ExcC.fo {K : PySem.W.Frag} {C : Addr} (T : ExcC K C) (od : Obj) : PySem.W.findObj K C (some od) "__class__" = some (.bind (.builtin "getset_descriptor.__get__") (.builtin "object.__class__")) :=
  PySem.W.findObj_data (by obtain ⟨cd, hc, _⟩ := PySem.W.any_some T.hd; show (PySem.W.clsIn K C).isSome = true; rw [hc]; rfl) T.ha T.hn T.ht
/-- self.__class__.__name__ of an error that is being made -/
def tCN (K : PySem.W.Frag) (te : TE) : TE := fun σ H Q => te σ H fun x H1 => ∃ (a C dx : Addr) (fs : List (Str × V)) (fI : Addr) (nm : Str), x = .ref a ∧ ExK K C fI nm ∧ H1 a = some (exo a C (some dx)) ∧ H1 dx = some (exd dx fs) ∧ Q (.str nm) H1
theorem pe_clsname {X : Cx} {o : Expr} {te : TE} {p1 p2 : Pos} (he : PE X o te) (hb1 : attributeBase o "__class__" X.env (eval o X.env) = eval o X.env := by rfl)
    (hb2 : attributeBase (.Attribute o "__class__" p1) "__name__" X.env (eval (.Attribute o "__class__" p1) X.env) = eval (.Attribute o "__class__" p1) X.env := by rfl) :
    PE X (.Attribute (.Attribute o "__class__" p1) "__name__" p2) (tCN X.K te) := by
  refine ⟨fun pins s σ H Q I h => ?_⟩
  refine attr_of hb2 (attr_of hb1 (thn (he.run pins s σ H _ I h) fun u s1 ⟨x, H1, I1, rx, a, C, dx, fs, fI, nm, ex, T, ea, ed, q⟩ => ?_))
  subst ex
  obtain rfl : u = Value.ref a := rx
  obtain ⟨t1, ho⟩ := exo_at I1.hok ea
  obtain ⟨mA, hns, rel⟩ := exd_at I1.hok ed
  obtain ⟨oD, _, _, hoD, _, _⟩ := id hns
  have J : PySem.W.InstAt s1.heap a { cls := .ref C, dict := some dx, data := .fields #[.ref t1, .none, .none, .none, .bool false, .none] } C (some oD) := ⟨ho, rfl, rfl, hoD⟩
  obtain ⟨n, qq, N, bs, bm, sn, sub, ab, col, dd, k0, k1, tk, k3, k5, hC, hbm⟩ := T.cls
  refine PySem.ExqW.exq_class T.ex.hg T.ex.hk T.ex.hs (T.ex.fo oD) T.ex.hm I1.kIn J ?_
  refine PySem.ExqW.exq_name (s := { s1 with toks := s1.toks + 1 }) I1.kIn T.rd T.fc T.tyC hC rfl rfl ?_
  exact ⟨.str nm, H1, I1.tok _, ⟨tk, rfl⟩, q⟩
/-- error.f in an except suite: the class is known when it runs -/
def tXfA (K : PySem.W.Frag) (a : Addr) (cls : Value) (d : Option Addr) (f : Str) (te : TE) : TE := fun σ H Q => te σ H fun x H1 => x = .ref a ∧ ∃ C, cls = .ref C ∧ XfC K C ∧ PySem.W.findIn K (.ref C) f = some none ∧ ∃ (dd : Addr) (fs : List (Str × V)) (v : V), d = some dd ∧ H1 dd = some (.xd fs) ∧ fs.lookup f = some v ∧ Q v H1
theorem pe_xfA {X : Cx} {a : Addr} {oe : Obj} {cls : Value} {d : Option Addr} {pn : List (Addr × Obj)} {e : Expr} {te : TE} {pos : Pos} {n : Str}
    (hz : Zc cls d oe) (hf : ∃ vs, oe.data = .fields vs) (he : PE (X.suite a ((a, oe) :: pn)) e te) (hb : attributeBase e n X.env (eval e X.env) = eval e X.env := by rfl) :
    PE (X.suite a ((a, oe) :: pn)) (.Attribute e n pos) (tXfA X.K a cls d n te) := by
  refine ⟨fun pins s σ H Q I h => ?_⟩
  refine attr_of hb (thn (he.run pins s σ H _ I h) fun u s1 hh => ?_)
  obtain ⟨x, H1, I1, rx, ex, C, ec, T, hno, dd, fs, v, ed, ea, l, q⟩ := hh
  subst ex
  obtain rfl : u = Value.ref a := rx
  subst ec
  subst ed
  obtain ⟨ha, _⟩ := I1.pin (a, oe) (List.mem_append_left _ List.mem_cons_self)
  obtain ⟨vs, hd⟩ := hf
  have hx : ObjOk X.prog X.w H1 s1.heap dd (.xd fs) := I1.hok dd _ ea
  obtain ⟨mA, hns, hr⟩ := hx
  obtain ⟨od, ho, hl⟩ := lookIn_ns hns
  obtain ⟨u, hu, ru⟩ := RelO.some_of (v := v) (o := mA n) (by rw [← l]; exact hr n)
  have J : PySem.W.InstAt s1.heap a oe C (some od) := ⟨ha, hz.1, by unfold PySem.W.notCls; rw [hd] <;> rfl, by rw [hz.2]; exact ho⟩
  exact HandSPX.exc_get I1.kIn J T.ga T.gg T.exC (PySem.W.findObj_own T.hdC hno rfl (by rw [hl, hu])) (handed_of ru) ⟨v, H1, I1.tok _, ru, q⟩
/-- isinstance(error, c) in an except suite -/
def rIsA (K : PySem.W.Frag) (cls : Value) (d : Option Addr) (a : Addr) : List V → Hp → VK → Prop := fun xs H Q => ∃ (C : Addr) (c : V) (cv : Value) (b : Bool) (dd : Addr) (fs : List (Str × V)), cls = .ref C ∧ ExcC K C ∧ d = some dd ∧ H dd = some (.xd fs) ∧ xs = [.ref a, c] ∧ (∀ u, RelV c u → u = cv) ∧ PySem.W.kitOne K (.ref C) cv = some b ∧ Q (.bl b) H
theorem call_isA {X : Cx} {a : Addr} {oe : Obj} {cls : Value} {d : Option Addr} {pn : List (Addr × Obj)} (hz : Zc cls d oe) (hf : ∃ vs, oe.data = .fields vs) : CallR (X.suite a ((a, oe) :: pn)) (.builtin "isinstance") (rIsA X.K cls d a) := by
  intro pins s σ H xs us Q I r h
  obtain ⟨C, c, cv, b, dd, fs, ec, T, ed, ea, rfl, hcv, e, q⟩ := h
  subst ec
  subst ed
  cases r with
  | cons rx rr =>
    cases rr with
    | cons rt rr =>
      cases rr
      cases rx
      have ecv := hcv _ rt
      subst ecv
      obtain ⟨hget, _⟩ := I.pin (a, oe) (List.mem_append.mpr (.inl List.mem_cons_self))
      obtain ⟨vs, hv⟩ := hf
      have hx : ObjOk X.prog X.w H s.heap dd (.xd fs) := I.hok dd _ ea
      obtain ⟨mA, ⟨od, es, ep, ho, hl⟩, hr⟩ := hx
      have J : PySem.W.InstAt s.heap a oe C (some od) := ⟨hget, hz.1, by unfold PySem.W.notCls; rw [hv] <;> rfl, by rw [hz.2]; exact ho⟩
      exact PySem.W.kia_one (PySem.ExqW.exq_kitx T.hg T.hk T.hs T.hd (T.fo od) T.hm) I.kIn J e (fun z => nomatch z) fun tk => ⟨.bl b, H, I.kept (t' := tk) fun _ _ z => z, rfl, q⟩
/-! ### calls that may let an error out -/
section
variable {X : Cx} {CX : CXT} {k : Nat} {f C : Addr} {fd : FuncData} {ps : List Str} {sp : Sp} {dvs : List V} {ds : List Value} {E : St → XK} {x m : Str} {p pos apos : Pos} {e o : Expr} {es : List Expr} {ta : TE} {t : TA}
theorem run_fnD {pins : List (Addr × Obj)} {σ : St} {H : Hp} {s : Shared} {Q : VK} {us : List Value} {vs : List V} (F : FnOk X.prog X.w X.K X.mg X.base CX k f fd ps sp) (hr : Room k X.A) (hb : Binds X.K fd ps ds) (hd : Vals dvs ds) (hx : PassesAt CX X σ (E σ))
    (I : Inv X pins σ H s) (r : Vals vs us) (h : sp (vs ++ dvs) H Q (E σ)) : wpAny (model X.prog X.w) X.A (call (.ref f) us) (EP X pins σ Q) X.xe s := by
  have r2 : Vals (vs ++ dvs) (us ++ ds) := r.append hd
  have hl : (us ++ ds).length = ps.length := by rw [← r2.length]; exact F.len _ _ _ _ h
  refine wpAny_call (codeAny_mono (F.run X.A X.stack s H ⟨us, []⟩ (us ++ ds) (vs ++ dvs) Q (E σ) hr I.env0 (hb s us I.kIn hl) r2 h) fun r s' hq => ?_)
  cases r with
  | error e => exact hx pins H s e s' I hq
  | ok fl =>
    cases fl with
    | ret u => exact I.after hq
    | next => exact False.elim hq
    | brk => exact False.elim hq
    | cont => exact False.elim hq
def tCallX (sp : Sp) (dvs : List V) (E : St → XK) (t : TA) : TE := fun σ H Q => t σ H fun vs H1 => sp (vs ++ dvs) H1 Q (E σ)
theorem pe_callX (F : FnOk X.prog X.w X.K X.mg X.base CX k f fd ps sp) (hr : Room k X.A) (hg : Gl X x) (hm : X.mg x = some (.ref f)) (hk : PySem.W.keepIn X.K (.ref f) = true) (hb : Binds X.K fd ps ds) (hd : Vals dvs ds) (hx : ∀ σ, PassesAt CX X σ (E σ))
    (ha : PA X (e :: es) t) (hdb : (x == ("__debug__" : Str)) = false := by decide) (he : starEach (e :: es) X.env = (false, eval e X.env) :: starEach es X.env := by rfl) (hpl : (backTo pos (starEach es X.env)).any (·.1) = false := by rfl) :
    PE X (.Call (.Name x p) (e :: es) [] pos) (tCallX sp dvs E t) := by
  refine ⟨fun pins s σ H Q I h => ?_⟩
  refine wpAny_Call_Name_kw (ld_glob I hg hm ?_ hdb)
  refine PySem.W.callWith_K (h₀ := X.base) I.ok.mod.kin hk (thn (ha.run pos pins s σ H _ I h) fun us s1 ⟨vs, H1, I1, r, q⟩ => ⟨I1.kIn, ?_⟩) he hpl
  exact run_fnD F hr hb hd (hx σ) I1 r q
/-- o.m(..) -/
def tMethX (C : Addr) (m : Str) (sp : Sp) (dvs : List V) (E : St → XK) (ta : TE) (t : TA) : TE := fun σ H Q => ta σ H fun x H1 => ∃ a dx fs, x = .ref a ∧ H1 a = some (.ins C dx fs) ∧ fs.lookup m = none ∧
  t σ H1 fun vs H2 => sp (x :: (vs ++ dvs)) H2 Q (E σ)
theorem pe_methX {pl : Sem Bool} (he : PE X o ta) (c : Cls X.K C) (hm : Meth X.K C m f) (F : FnOk X.prog X.w X.K X.mg X.base CX k f fd ps sp) (hr : Room k X.A) (hb : Binds X.K fd ps ds) (hd : Vals dvs ds) (hx : ∀ σ, PassesAt CX X σ (E σ)) (ha : PA X (e :: es) t)
    (hst : starEach (e :: es) X.env = (false, eval e X.env) :: starEach es X.env := by rfl) (hpl : (backTo pos (starEach es X.env)).any (·.1) = false := by rfl)
    (ht : eval (.Call (.Attribute o m apos) (e :: es) [] pos) X.env = (do
      let ov ← eval o X.env
      standAt apos.atName
      let (f, first) ← holding [ov] (getMethod ov m pl)
      callWith pos f first (backTo pos (starEach (e :: es) X.env)) (backToKw pos (keywordEach [] X.env))) := by rfl) :
    PE X (.Call (.Attribute o m apos) (e :: es) [] pos) (tMethX C m sp dvs E ta t) := by
  refine ⟨fun pins s σ H Q I h => ?_⟩
  refine PySem.W.methodCall_KW (pl := pl) (thn (he.run pins s σ H _ I h) fun u s1 ⟨x, H1, I1, rx, a, dx, fs, ex, ea, l, q⟩ => ?_) ht
  subst ex
  obtain rfl : u = Value.ref a := rx
  refine getmeth_ok I1 ea c hm l ?_
  refine PySem.W.callWith_K (first := [.ref a]) (h₀ := X.base) I.ok.mod.kin hm.kp (thn (ha.run pos pins s1 σ H1 _ I1 q) fun us s2 ⟨vs, H2, I2, r, q2⟩ => ⟨I2.kIn, ?_⟩) hst hpl
  exact run_fnD (us := .ref a :: us) (vs := .ref a :: vs) F hr hb hd (hx σ) I2 (.cons rfl r) q2
theorem pe_methX0 {pl : Sem Bool} (he : PE X o ta) (c : Cls X.K C) (hm : Meth X.K C m f) (F : FnOk X.prog X.w X.K X.mg X.base CX k f fd ps sp) (hr : Room k X.A) (hb : Binds X.K fd ps ds) (hd : Vals dvs ds) (hx : ∀ σ, PassesAt CX X σ (E σ))
    (ht : eval (.Call (.Attribute o m apos) [] [] pos) X.env = (do
      let ov ← eval o X.env
      standAt apos.atName
      let (f, first) ← holding [ov] (getMethod ov m pl)
      callWith pos f first (backTo pos (starEach [] X.env)) (backToKw pos (keywordEach [] X.env))) := by rfl) :
    PE X (.Call (.Attribute o m apos) [] [] pos) (tMethX C m sp dvs E ta tNil) := by
  refine ⟨fun pins s σ H Q I h => ?_⟩
  refine PySem.W.methodCall_KW (pl := pl) (thn (he.run pins s σ H _ I h) fun u s1 ⟨x, H1, I1, rx, a, dx, fs, ex, ea, l, q⟩ => ?_) ht
  subst ex
  obtain rfl : u = Value.ref a := rx
  refine getmeth_ok I1 ea c hm l ?_
  exact PySem.W.callWith_K0 (first := [.ref a]) I1.kIn hm.kp (run_fnD (us := [.ref a]) (vs := [.ref a]) F hr hb hd (hx σ) I1 (.cons rfl .nil) q)
end
/-! ### readings -/
def ErrD (H : Hp) (d : Addr) (nm : Str) (n : Int) : Prop := H d = some (.xd [("name", .str nm), ("place", .int n)])
theorem ErrD.ex {H H' : Hp} {d : Addr} {nm : Str} {n : Int} (e : Evl.Ex H H') (h : ErrD H d nm n) : ErrD H' d nm n := e _ _ h
def sp_einit (K : PySem.W.Frag) : Sp := fun vs H Q _ => ∃ (a C fI : Addr) (nm : Str) (n : Int), vs = [.ref a, .int n] ∧ ExK K C fI nm ∧ H a = some (exo a C none) ∧
  ∀ dx H', H dx = none → dx ≠ a → (∀ b o, b ≠ a → H b = some o → H' b = some o) → H' a = some (exo a C (some dx)) → H' dx = some (exd dx [("name", .str nm), ("place", .int n)]) → Q .non H'
theorem mk_err {K : PySem.W.Frag} {C fI : Addr} {nm : Str} {σ : St} {H : Hp} {ta : TA} {n : Int} {Q : XK} (T : ExK K C fI nm) (h : Evl.EvA ta σ H [.int n]) (k : ∀ H' d, H d = none → Evl.Ex H H' → ErrD H' d nm n → Q (.ref C) (some d) H') : tMkO C (sp_einit K) [] ta σ H Q := by
  refine h H (Evl.Ex.refl H) _ fun H1 e1 => ⟨Nat.le_of_ble_eq_true rfl, fun a ha => ⟨a, C, fI, nm, n, rfl, T, upd_same, fun dx H2 hdx ne keep h2a h2d => ⟨rfl, dx, _, h2a, h2d, by rwa [upd_ne ne] at hdx, ?_⟩⟩⟩
  have hdx1 : H1 dx = none := by rwa [upd_ne ne] at hdx
  refine k _ dx (by cases hh : H dx with | none => rfl | some o => rw [e1 _ _ hh] at hdx1; cases hdx1) (fun b o hb => ?_) upd_same
  have hb1 := e1 _ _ hb
  have nb : b ≠ a := fun z => by rw [z, ha] at hb1; cases hb1
  have nd : b ≠ dx := fun z => by rw [z, hdx1] at hb1; cases hb1
  rw [upd_ne nd, del_ne nb]
  exact keep b o nb (by rw [upd_ne nb]; exact hb1)
end L2

namespace K02
open PySem PySem.Spec PyProof.Rows L2 Evl
def topS (i : Nat) : Stmt := PySem.Challenge.pw_monochord_k02_fields_of_a_reader.main.body.getD i (.Pass ⟨0, 0, 0, 0⟩)
abbrev s_MonochordError_init : Stmt := inClass (topS 2) 0
theorem sc_MonochordError_init : FnScope ["self", "place"] ["self", "place"] (defScope s_MonochordError_init) := ⟨rfl, rfl, rfl, by decide +kernel, rfl, by decide +kernel, by decide +kernel⟩
abbrev s_BitReader_init : Stmt := inClass (topS 6) 0
theorem sc_BitReader_init : FnScope ["self", "data", "at"] ["self", "data", "at"] (defScope s_BitReader_init) := ⟨rfl, rfl, rfl, by decide +kernel, rfl, by decide +kernel, by decide +kernel⟩
abbrev s_BitReader_read : Stmt := inClass (topS 6) 1
theorem sc_BitReader_read : FnScope ["self", "width", "data", "start", "stop", "last", "value", "byte"] ["self", "width"] (defScope s_BitReader_read) := ⟨rfl, rfl, rfl, by decide +kernel, rfl, by decide +kernel, by decide +kernel⟩
abbrev s_BitReader_read_signed : Stmt := inClass (topS 6) 2
theorem sc_BitReader_read_signed : FnScope ["self", "width", "value"] ["self", "width"] (defScope s_BitReader_read_signed) := ⟨rfl, rfl, rfl, by decide +kernel, rfl, by decide +kernel, by decide +kernel⟩
abbrev s_BitReader_read_unary : Stmt := inClass (topS 6) 3
theorem sc_BitReader_read_unary : FnScope ["self", "data", "place", "ahead", "one", "count"] ["self"] (defScope s_BitReader_read_unary) := ⟨rfl, rfl, rfl, by decide +kernel, rfl, by decide +kernel, by decide +kernel⟩
abbrev s_BitReader_read_bytes : Stmt := inClass (topS 6) 4
theorem sc_BitReader_read_bytes : FnScope ["self", "count", "data", "place", "_"] ["self", "count"] (defScope s_BitReader_read_bytes) := ⟨rfl, rfl, rfl, by decide +kernel, rfl, by decide +kernel, by decide +kernel⟩
abbrev s_BitReader_since : Stmt := inClass (topS 6) 5
theorem sc_BitReader_since : FnScope ["self", "place"] ["self", "place"] (defScope s_BitReader_since) := ⟨rfl, rfl, rfl, by decide +kernel, rfl, by decide +kernel, by decide +kernel⟩
abbrev s_BitReader_rest_of_byte : Stmt := inClass (topS 6) 7
theorem sc_BitReader_rest_of_byte : FnScope ["self", "place"] ["self"] (defScope s_BitReader_rest_of_byte) := ⟨rfl, rfl, rfl, by decide +kernel, rfl, by decide +kernel, by decide +kernel⟩
abbrev s_BitReader_byte_place : Stmt := inClass (topS 6) 9
theorem sc_BitReader_byte_place : FnScope ["self"] ["self"] (defScope s_BitReader_byte_place) := ⟨rfl, rfl, rfl, by decide +kernel, rfl, by decide +kernel, by decide +kernel⟩
abbrev s_BitReader_bit_place : Stmt := inClass (topS 6) 10
theorem sc_BitReader_bit_place : FnScope ["self"] ["self"] (defScope s_BitReader_bit_place) := ⟨rfl, rfl, rfl, by decide +kernel, rfl, by decide +kernel, by decide +kernel⟩
abbrev s_BitReader_aligned : Stmt := inClass (topS 6) 11
theorem sc_BitReader_aligned : FnScope ["self"] ["self"] (defScope s_BitReader_aligned) := ⟨rfl, rfl, rfl, by decide +kernel, rfl, by decide +kernel, by decide +kernel⟩
abbrev s_law_draw : Stmt := topS 8
theorem sc_law_draw : FnScope ["cell", "many", "bound", "numbers", "k", "seed", "mixed"] ["cell", "many", "bound"] (defScope s_law_draw) := ⟨rfl, rfl, rfl, by decide +kernel, rfl, by decide +kernel, by decide +kernel⟩
abbrev s_law_is_integer : Stmt := topS 9
theorem sc_law_is_integer : FnScope ["actual"] ["actual"] (defScope s_law_is_integer) := ⟨rfl, rfl, rfl, by decide +kernel, rfl, by decide +kernel, by decide +kernel⟩
abbrev s_law_same : Stmt := topS 10
theorem sc_law_same : FnScope ["actual", "expected", "k"] ["actual", "expected"] (defScope s_law_same) := ⟨rfl, rfl, rfl, by decide +kernel, rfl, by decide +kernel, by decide +kernel⟩
abbrev s_law_data : Stmt := topS 11
theorem sc_law_data : FnScope ["cell", "more", "many", "size", "data", "k"] ["cell", "more"] (defScope s_law_data) := ⟨rfl, rfl, rfl, by decide +kernel, rfl, by decide +kernel, by decide +kernel⟩
abbrev s_law_all_bits : Stmt := topS 12
theorem sc_law_all_bits : FnScope ["data", "bits", "byte", "k"] ["data"] (defScope s_law_all_bits) := ⟨rfl, rfl, rfl, by decide +kernel, rfl, by decide +kernel, by decide +kernel⟩
abbrev s_law_number : Stmt := topS 13
theorem sc_law_number : FnScope ["bits", "value", "bit"] ["bits"] (defScope s_law_number) := ⟨rfl, rfl, rfl, by decide +kernel, rfl, by decide +kernel, by decide +kernel⟩
abbrev s_law_due : Stmt := topS 14
theorem sc_law_due : FnScope ["bits", "at", "kind", "width", "end", "k", "row", "value"] ["bits", "at", "kind", "width"] (defScope s_law_due) := ⟨rfl, rfl, rfl, by decide +kernel, rfl, by decide +kernel, by decide +kernel⟩
abbrev s_law_read : Stmt := topS 15
theorem sc_law_read : FnScope ["reader", "kind", "width", "told", "kept", "error", "right"] ["reader", "kind", "width"] (defScope s_law_read) := ⟨rfl, rfl, rfl, by decide +kernel, rfl, by decide +kernel, by decide +kernel⟩
abbrev s_law_fits : Stmt := topS 16
theorem sc_law_fits : FnScope ["told", "due", "size"] ["told", "due", "size"] (defScope s_law_fits) := ⟨rfl, rfl, rfl, by decide +kernel, rfl, by decide +kernel, by decide +kernel⟩
abbrev s_law_placed : Stmt := topS 17
theorem sc_law_placed : FnScope ["reader", "at", "aligned"] ["reader", "at"] (defScope s_law_placed) := ⟨rfl, rfl, rfl, by decide +kernel, rfl, by decide +kernel, by decide +kernel⟩
abbrev s_law_cell : Stmt := topS 18
theorem sc_law_cell : FnScope ["script", "k"] ["script", "k"] (defScope s_law_cell) := ⟨rfl, rfl, rfl, by decide +kernel, rfl, by decide +kernel, by decide +kernel⟩
abbrev s_law : Stmt := topS 19
theorem sc_law : FnScope ["script", "data", "handed", "bits", "places", "readers", "starts", "at", "cell", "numbers", "which", "kind", "width", "due", "early", "told"] ["script"] (defScope s_law) := ⟨rfl, rfl, rfl, by decide +kernel, rfl, by decide +kernel, by decide +kernel⟩
theorem hu64 {A : Around} {k : Nat} (hr : Room k A) : A.units + 64 < cLine := hr.units
/-! ### short words for readings -/
theorem ret_eq {v w : V} {H H' : Hp} {Q : VK} (k : RetV v H Q) (ex : Ex H H') (e : w = v) : Q w H' := e ▸ k H' ex
/-- isinstance(x, T), T a built-in class -/
theorem ev_isi {K : PySem.W.Frag} {σ : L2.St} {H : Hp} {ta : TE} {x : V} {t : String} {T : String} {b : Bool} (ha : Ev ta σ H x) (ht : ∀ H1, Ex H H1 → TyX K H1 x (.type t)) (hk : kitB t T = some b) :
    Ev (tCB (rIsi K) (tCons ta (tCons (tC (.ty T)) tNil))) σ H (.bl b) :=
  ev_cb (ea_cons ha (ea_cons ev_c ea_nil)) fun H1 e Q q => ⟨x, .ty T, _, _, b, rfl, .ty T, ht H1 e, kit_ty hk, q H1 (Ex.refl H1)⟩
theorem isi_int {K : PySem.W.Frag} {H : Hp} {i : Int} : ∀ H1, Ex H H1 → TyX K H1 (V.int i) (.type "int") := fun _ _ => .base (.int _)
theorem isi_bl {K : PySem.W.Frag} {H : Hp} {b : Bool} : ∀ H1, Ex H H1 → TyX K H1 (V.bl b) (.type "bool") := fun _ _ => .base (.bl _)
theorem isi_non {K : PySem.W.Frag} {H : Hp} : ∀ H1, Ex H H1 → TyX K H1 V.non (.type "NoneType") := fun _ _ => .base .non
theorem isi_lst {K : PySem.W.Frag} {H : Hp} {a : Addr} {xs : List V} (h : H a = some (.lst xs)) : ∀ H1, Ex H H1 → TyX K H1 (V.ref a) (.type "list") := fun _ e => .base (.lst (e _ _ h))
theorem isi_tup {K : PySem.W.Frag} {H : Hp} {a : Addr} {xs : List V} (h : H a = some (.tup xs)) : ∀ H1, Ex H H1 → TyX K H1 (V.ref a) (.type "tuple") := fun _ e => .base (.tup (e _ _ h))
theorem kit_ii : kitB "int" "int" = some true := by decide +kernel
theorem kit_ib : kitB "int" "bool" = some false := by decide +kernel
theorem kit_bb : kitB "bool" "bool" = some true := by decide +kernel
theorem kit_bi : kitB "bool" "int" = some true := by decide +kernel
theorem kit_ll : kitB "list" "list" = some true := by decide +kernel
theorem kit_tt : kitB "tuple" "tuple" = some true := by decide +kernel
theorem ev_isiI {K : PySem.W.Frag} {σ : L2.St} {H : Hp} {ta : TE} {i : Int} (ha : Ev ta σ H (.int i)) : Ev (tCB (rIsi K) (tCons ta (tCons (tC (.ty "int")) tNil))) σ H (.bl true) := ev_isi ha isi_int kit_ii
theorem ev_isiB {K : PySem.W.Frag} {σ : L2.St} {H : Hp} {ta : TE} {i : Int} (ha : Ev ta σ H (.int i)) : Ev (tCB (rIsi K) (tCons ta (tCons (tC (.ty "bool")) tNil))) σ H (.bl false) := ev_isi ha isi_int kit_ib
theorem ev_isiL {K : PySem.W.Frag} {σ : L2.St} {H : Hp} {ta : TE} {a : Addr} {xs : List V} (ha : Ev ta σ H (.ref a)) (h : H a = some (.lst xs)) : Ev (tCB (rIsi K) (tCons ta (tCons (tC (.ty "list")) tNil))) σ H (.bl true) := ev_isi ha (isi_lst h) kit_ll
theorem ev_isiBB {K : PySem.W.Frag} {σ : L2.St} {H : Hp} {ta : TE} {b : Bool} (ha : Ev ta σ H (.bl b)) : Ev (tCB (rIsi K) (tCons ta (tCons (tC (.ty "bool")) tNil))) σ H (.bl true) := ev_isi ha isi_bl kit_bb
theorem ev_chain {σ : L2.St} {H : Hp} {ta tb tc : TE} {g g' : Int → Int → Bool} {a b c : Int} (ha : Ev ta σ H (.int a)) (hb : Ev tb σ H (.int b)) (hc : Ev tc σ H (.int c)) :
    Ev (tChain (rI0 fun i j => .bl (g i j)) (rI0 fun i j => .bl (g' i j)) ta tb tc) σ H (.bl (g a b && g' b c)) := fun H1 e Q q =>
  ha H1 e _ fun H2 e2 => hb H2 (e.trans e2) _ fun H3 e3 => ⟨a, b, rfl, rfl, g a b, rfl, by
    cases hg : g a b with
    | true =>
      rw [if_pos rfl]
      rw [hg, Bool.true_and] at q
      exact hc H3 ((e.trans e2).trans e3) _ fun H4 e4 => ⟨b, c, rfl, rfl, q H4 ((e2.trans e3).trans e4)⟩
    | false =>
      rw [if_neg (by decide)]
      rw [hg, Bool.false_and] at q
      exact q H3 (e2.trans e3)⟩
theorem ev_isN {σ : L2.St} {H : Hp} {ta : TE} {x : V} (ha : Ev ta σ H x) : Ev (tOp rIsN ta (tC .non)) σ H (.bl (decide (x = .non))) := fun H1 e Q q => ha H1 e _ fun H2 e2 => ⟨rfl, q H2 e2⟩
theorem ev_notN {σ : L2.St} {H : Hp} {ta : TE} {x : V} (ha : Ev ta σ H x) : Ev (tOp rNotN ta (tC .non)) σ H (.bl (!decide (x = .non))) := fun H1 e Q q => ha H1 e _ fun H2 e2 => ⟨rfl, q H2 e2⟩
theorem ev_min2 {σ : L2.St} {H : Hp} {ta tb : TE} {i j : Int} (ha : Ev ta σ H (.int i)) (hb : Ev tb σ H (.int j)) :
    Ev (tCB (fun xs H Q => ∃ i j, xs = [.int i, .int j] ∧ Q (.int (if j < i then j else i)) H) (tCons ta (tCons tb tNil))) σ H (.int (if j < i then j else i)) :=
  ev_cb (ea_cons ha (ea_cons hb ea_nil)) fun H1 _ _ q => ⟨i, j, rfl, q H1 (Ex.refl H1)⟩
theorem ev_negI {σ : L2.St} {H : Hp} {ta : TE} {i : Int} (ha : Ev ta σ H (.int i)) : Ev (tUn (rU fun i => .int (-i)) ta) σ H (.int (-i)) := ev_un ha ru_neg
theorem ev_I0 {σ : L2.St} {H : Hp} {ta tb : TE} {g : Int → Int → V} {i j : Int} (ha : Ev ta σ H (.int i)) (hb : Ev tb σ H (.int j)) : Ev (tOp (rI0 g) ta tb) σ H (g i j) := ev_op ha hb rv_I0
theorem ev_I {σ : L2.St} {H : Hp} {ta tb : TE} {C : Int → Int → Prop} {g : Int → Int → V} {i j : Int} (ha : Ev ta σ H (.int i)) (hb : Ev tb σ H (.int j)) (hc : C i j) : Ev (tOp (rI C g) ta tb) σ H (g i j) := ev_op ha hb (rv_I hc)
theorem ev_eq {σ : L2.St} {H : Hp} {ta tb : TE} {x y : V} (ha : Ev ta σ H x) (hb : Ev tb σ H y) (hs : scal x y = true) : Ev (tOp rEq ta tb) σ H (.bl (decide (x = y))) := ev_op ha hb (rv_eq hs)
theorem ev_ne {σ : L2.St} {H : Hp} {ta tb : TE} {x y : V} (ha : Ev ta σ H x) (hb : Ev tb σ H y) (hs : scal x y = true) : Ev (tOp rNe ta tb) σ H (.bl (!decide (x = y))) := ev_op ha hb (rv_ne hs)
theorem et_B' {σ : L2.St} {H : Hp} {te : TE} {x : V} {b : Bool} (h : Ev te σ H x) (e : x = .bl b) : EvT (tB te) σ H b := et_B (e ▸ h)
theorem dec_lt {a b : Nat} : decide ((a : Int) < (b : Int)) = decide (a < b) := by
  by_cases h : a < b
  · rw [decide_eq_true h, decide_eq_true (by omega)]
  · rw [decide_eq_false h, decide_eq_false (by omega)]
theorem int_at {ns : List Int} {i : Nat} {x : V} (hx : (ns.map V.int)[i]? = some x) : ∃ n, ns[i]? = some n ∧ i < ns.length ∧ x = V.int n := by
  rw [List.getElem?_map] at hx
  cases en : ns[i]? with
  | none => rw [en] at hx; cases hx
  | some n => rw [en] at hx; exact ⟨n, rfl, (List.getElem?_eq_some_iff.mp en).1, (Option.some.inj hx).symm⟩
theorem at_int {ns : List Int} {i : Nat} {n : Int} (h : ns[i]? = some n) : (ns.map V.int)[i]? = some (V.int n) := by rw [List.getElem?_map, h]; rfl
local macro_rules | `(tactic| walk_at "side") => `(tactic| first
  | omega | (show CMul _ _; unfold CMul; omega) | (show CDiv _ _; unfold CDiv; omega) | (show CPow _ _; unfold CPow; omega) | (show (_ : Int) < _; omega) | (show (_ : Int) ≤ _; omega) | decide)
local macro_rules | `(tactic| walk_at "ev") => `(tactic| first
  | exact ev_var rfl
  | exact ev_c
  | (refine' ev_I0 ?h1 ?h2; (case h1 => walk_at "ev"); (case h2 => walk_at "ev"))
  | (refine' ev_negI ?h1; (case h1 => walk_at "ev"))
  | (refine' ev_I ?h1 ?h2 ?hc; (case h1 => walk_at "ev"); (case h2 => walk_at "ev"); (case hc => walk_at "side"))
  | (refine' ev_eq ?h1 ?h2 ?hc; (case h1 => walk_at "ev"); (case h2 => walk_at "ev"); (case hc => rfl))
  | (refine' ev_ne ?h1 ?h2 ?hc; (case h1 => walk_at "ev"); (case h2 => walk_at "ev"); (case hc => rfl))
  | (refine' ev_max2 ?h1 ?h2; (case h1 => walk_at "ev"); (case h2 => walk_at "ev"))
  | (refine' ev_min2 ?h1 ?h2; (case h1 => walk_at "ev"); (case h2 => walk_at "ev"))
  | (refine' ev_chain ?h1 ?h2 ?h3; (case h1 => walk_at "ev"); (case h2 => walk_at "ev"); (case h3 => walk_at "ev"))
  | (refine' ev_isN ?h1; (case h1 => walk_at "ev"))
  | (refine' ev_notN ?h1; (case h1 => walk_at "ev"))
  | (refine' ev_isiI ?h1; (case h1 => walk_at "ev"))
  | (refine' ev_isiB ?h1; (case h1 => walk_at "ev"))
  | (refine' ev_isiBB ?h1; (case h1 => walk_at "ev"))
  | (refine' ev_andV ?h1 (fun _ => ?h2); (case h1 => walk_at "ev"); (case h2 => walk_at "ev"))
  | (refine' ev_orV ?h1 (fun _ => ?h2); (case h1 => walk_at "ev"); (case h2 => walk_at "ev"))
  | (refine' ev_notV ?h1; (case h1 => walk_at "ev"))
  | walk_at "evmore")
local macro_rules | `(tactic| walk_at "et") => `(tactic| first
  | (refine' et_test ?h1; (case h1 => walk_at "ev"))
  | (refine' et_B ?h1; (case h1 => walk_at "ev"))
  | (refine' et_not ?h1; (case h1 => walk_at "et"))
  | (refine' et_and ?h1 (fun _ => ?h2); (case h1 => walk_at "et"); (case h2 => walk_at "et"))
  | (refine' et_or ?h1 (fun _ => ?h2); (case h1 => walk_at "et"); (case h2 => walk_at "et")))
local macro_rules | `(tactic| walk_at "ea") => `(tactic| first
  | exact ea_nil
  | (refine' ea_cons ?h1 ?h2; (case h1 => walk_at "ev"); (case h2 => walk_at "ea")))
local macro_rules | `(tactic| walk_at "when") => `(tactic| (refine' q_when ?h ?h1 ?h2; (case h => walk_at "et")))
local macro_rules | `(tactic| walk_at "whenS") => `(tactic| (refine' s_when ?h ?h1 ?h2; (case h => walk_at "et")))
local macro_rules | `(tactic| walk_at "if") => `(tactic| (refine' q_if ?h ?h1 ?h2; (case h => walk_at "et")))
local macro_rules | `(tactic| walk_at "ifS") => `(tactic| (refine' s_if ?h ?h1 ?h2; (case h => walk_at "et")))
local macro_rules | `(tactic| walk_at "ret") => `(tactic| (refine' s_ret ?h ?h1; (case h => walk_at "ev")))
local macro_rules | `(tactic| walk_at "asg") => `(tactic| (refine' q_asg ?h ?h1; (case h => walk_at "ev")))
local macro_rules | `(tactic| walk_at "asgS") => `(tactic| (refine' s_asg ?h ?h1; (case h => walk_at "ev")))

/-! ### lists, existing or new -/
def EvR (te : TE) (σ : L2.St) (H : Hp) (xs : List V) : Prop := ∀ H1, Ex H H1 → ∀ Q : VK, (∀ p H2, Ex H1 H2 → H2 p = some (.lst xs) → Q (.ref p) H2) → te σ H1 Q
def EvS (K : PySem.W.Frag) (te : TE) (σ : L2.St) (H : Hp) (xs : List V) : Prop := ∀ H1, Ex H H1 → ∀ Q : VK, (∀ p H2, Ex H1 H2 → SqL K H2 p xs → Q (.ref p) H2) → te σ H1 Q
section
variable {K : PySem.W.Frag} {σ : L2.St} {H H' : Hp} {ta tb te : TE} {xs ys : List V} {a : Addr}
theorem EvL.r (h : EvL te σ H xs) : EvR te σ H xs := fun H1 e Q q => h H1 e Q fun p H2 _ e2 h2 => q p H2 e2 h2
theorem Ev.r (h : Ev te σ H (.ref a)) (hx : H a = some (.lst xs)) : EvR te σ H xs := fun H1 e Q q => h H1 e Q fun H2 e2 => q a H2 e2 (e2 _ _ (e _ _ hx))
theorem EvR.s (h : EvR te σ H xs) : EvS K te σ H xs := fun H1 e Q q => h H1 e Q fun p H2 e2 h2 => q p H2 e2 (sq_of h2)
theorem Ev.s (h : Ev te σ H (.ref a)) (hx : SqL K H a xs) : EvS K te σ H xs := fun H1 e Q q => h H1 e Q fun H2 e2 => q a H2 e2 (ex_l e2 (ex_l e hx))
theorem EvR.mono (e : Ex H H') (h : EvR te σ H xs) : EvR te σ H' xs := fun H1 a Q q => h H1 (e.trans a) Q q
theorem EvS.mono (e : Ex H H') (h : EvS K te σ H xs) : EvS K te σ H' xs := fun H1 a Q q => h H1 (e.trans a) Q q
theorem EvL.is (h : EvL te σ H xs) (e : xs = ys) : EvL te σ H ys := e ▸ h
theorem EvR.is (h : EvR te σ H xs) (e : xs = ys) : EvR te σ H ys := e ▸ h
theorem el_cat (ha : EvR ta σ H xs) (hb : EvR tb σ H ys) (hl : xs.length + ys.length ≤ 100000) : EvL (tOp rCat ta tb) σ H (xs ++ ys) := fun H1 e Q q =>
  ha H1 e _ fun p H2 e2 h2 => hb H2 (e.trans e2) _ fun r H3 e3 h3 => ⟨p, r, xs, ys, rfl, rfl, e3 _ _ h2, h3, sz_of hl, fun l hl => q l _ (fresh_back (e2.trans e3) hl) ((e2.trans e3).trans (Ex.new hl)) upd_same⟩
theorem el_rep {k : Int} (ha : EvR ta σ H xs) (hb : Ev tb σ H (.int k)) (hk : -(2 ^ 63) ≤ k ∧ k < 2 ^ 63) (hl : xs.length * k.toNat ≤ 100000) : EvL (tOp rRep ta tb) σ H (List.replicate k.toNat xs).flatten := fun H1 e Q q =>
  ha H1 e _ fun p H2 e2 h2 => hb H2 (e.trans e2) _ fun H3 e3 => ⟨p, k, xs, rfl, rfl, e3 _ _ h2, hk.1, hk.2, sz_of hl, fun l hl => q l _ (fresh_back (e2.trans e3) hl) ((e2.trans e3).trans (Ex.new hl)) upd_same⟩
theorem rep_one {x : V} (n : Nat) : (List.replicate n [x]).flatten = List.replicate n x := by
  induction n with
  | zero => rfl
  | succ n ih => rw [List.replicate_succ, List.replicate_succ, List.flatten_cons, ih]; rfl
theorem el_of {te : TE} (h : EvS K te σ H xs) : EvL (tCB (rListS K) (tCons te tNil)) σ H xs := fun H1 e Q q =>
  h H1 e _ fun p H2 e2 h2 => ⟨p, xs, rfl, .inl h2, fun l hl => q l _ (fresh_back e2 hl) (e2.trans (Ex.new hl)) upd_same⟩
theorem ev_lenS (h : EvS K te σ H xs) : Ev (tCB (rLenS K) (tCons te tNil)) σ H (.int (xs.length : Int)) := fun H1 e Q q =>
  h H1 e _ fun p H2 e2 h2 => ⟨p, xs, rfl, .inl h2, q H2 e2⟩
theorem ev_sum {ns : List Int} (h : EvS K te σ H (ns.map V.int)) : Ev (tCB (rSum K) (tCons te tNil)) σ H (.int ns.sum) := fun H1 e Q q =>
  h H1 e _ fun p H2 e2 h2 => ⟨p, ns, rfl, h2, q H2 e2⟩
theorem dp_ints {K : PySem.W.Frag} {H : Hp} : ∀ ns : List Int, DpAll K H (ns.map V.int) (ns.map PyData.int)
  | [] => .nil
  | n :: r => .cons (.int n) (dp_ints r)
theorem eqv_ints : ∀ ns ms : List Int, PyData.eqvAll (ns.map PyData.int) (ms.map PyData.int) = decide (ns = ms)
  | [], [] => by simp [PyData.eqvAll]
  | [], _ :: _ => by simp [PyData.eqvAll]
  | _ :: _, [] => by simp [PyData.eqvAll]
  | n :: r, m :: t => by
    show (PyData.eqv (.int n) (.int m) && PyData.eqvAll (r.map PyData.int) (t.map PyData.int)) = _
    rw [eqv_ints r t]
    show ((n == m) && decide (r = t)) = _
    by_cases h1 : n = m <;> by_cases h2 : r = t <;> simp [h1, h2]
theorem canLay_ints : ∀ ns : List Int, PyData.canLayAll0 (ns.map PyData.int) = true
  | [] => by simp [PyData.canLayAll0]
  | n :: r => by
    show PyData.canLayAll0 (PyData.int n :: r.map PyData.int) = true
    rw [PyData.canLayAll0, canLay_ints r]
    simp [PyData.canLay0]
theorem depth_ints : ∀ ns : List Int, PyData.depthAll (ns.map PyData.int) ≤ 1
  | [] => by simp [PyData.depthAll]
  | n :: r => by
    show PyData.depthAll (PyData.int n :: r.map PyData.int) ≤ 1
    have := depth_ints r
    simp only [PyData.depthAll, PyData.depth]
    omega
theorem shaped_ints (ns : List Int) : SeqAt.shaped (.list (ns.map PyData.int)) = true := by
  unfold SeqAt.shaped
  have h1 := canLay_ints ns
  have h2 := depth_ints ns
  have h3 : PyData.depth (.list (ns.map PyData.int)) ≤ 64 := by
    rw [PyData.depth]
    omega
  rw [decide_eq_true h3, Bool.and_true]
  simpa only [PyData.canLay0] using h1
theorem ev_eqI {ns ms : List Int} (ha : EvS K ta σ H (ns.map V.int)) (hb : EvS K tb σ H (ms.map V.int)) : Ev (tOp (rEqD K) ta tb) σ H (.bl (decide (ns = ms))) := fun H1 e Q q =>
  ha H1 e _ fun p H2 e2 h2 => hb H2 (e.trans e2) _ fun r H3 e3 h3 => ⟨.list (ns.map PyData.int), .list (ms.map PyData.int), .lst (ex_l e3 h2) (dp_ints ns), .lst h3 (dp_ints ms), shaped_ints ns, shaped_ints ms, by
    show Q (.bl (PyData.eqvAll (ns.map PyData.int) (ms.map PyData.int))) H3
    rw [eqv_ints]
    exact q H3 (e2.trans e3)⟩
theorem ev_neI {ns ms : List Int} (ha : EvS K ta σ H (ns.map V.int)) (hb : EvS K tb σ H (ms.map V.int)) : Ev (tOp (rNeD K) ta tb) σ H (.bl (!decide (ns = ms))) := fun H1 e Q q =>
  ha H1 e _ fun p H2 e2 h2 => hb H2 (e.trans e2) _ fun r H3 e3 h3 => ⟨.list (ns.map PyData.int), .list (ms.map PyData.int), .lst (ex_l e3 h2) (dp_ints ns), .lst h3 (dp_ints ms), shaped_ints ns, shaped_ints ms, by
    show Q (.bl (!PyData.eqvAll (ns.map PyData.int) (ms.map PyData.int))) H3
    rw [eqv_ints]
    exact q H3 (e2.trans e3)⟩
theorem ev_ixS {i : Nat} {n : Int} {tl ti : TE} {v : V} (h : EvS K tl σ H xs) (hi : Ev ti σ H (.int n)) (ha : atI xs n = some v) : Ev (tOp (rIxL K) tl ti) σ H v := fun H1 e Q q =>
  h H1 e _ fun p H2 e2 h2 => hi H2 (e.trans e2) _ fun H3 e3 => ⟨p, xs, n, v, rfl, rfl, ex_l e3 h2, ha, q H3 (e2.trans e3)⟩
theorem el_slS {tl th : TO} {lo hi : Option Int} (h : EvS K te σ H xs) (h1 : EvO tl σ H lo) (h2 : EvO th σ H hi) : EvL (tSl (rSlL K) te tl th) σ H (cutV xs lo hi) := fun H1 e _ q =>
  h H1 e _ fun a H2 e2 hs => h1 H2 (e.trans e2) _ fun H3 e3 => h2 H3 ((e.trans e2).trans e3) _ fun H4 e4 =>
    ⟨a, xs, rfl, ex_l (e3.trans e4) hs, fun p hp => q p _ (fresh_back ((e2.trans e3).trans e4) hp) (((e2.trans e3).trans e4).trans (Ex.new hp)) upd_same⟩
theorem ev_at {n : Int} {tl ti : TE} {v : V} (h : EvS K tl σ H xs) (hi : Ev ti σ H (.int n)) (ha : atI xs n = some v) : Ev (tOp (rIxL K) tl ti) σ H v := ev_ixS (i := 0) h hi ha
theorem cut_to (xs : List V) (i : Nat) : cutV xs none (some (i : Int)) = xs.take i := by
  unfold cutV
  rw [HT.sIx_none, HT.sIx_nat, List.drop_zero, Nat.sub_zero]
  by_cases h : i ≤ xs.length
  · rw [Nat.min_eq_left h]
  · rw [Nat.min_eq_right (by omega), List.take_of_length_le (Nat.le_refl _), List.take_of_length_le (by omega)]
theorem cut_from (xs : List V) (i : Nat) : cutV xs (some (i : Int)) none = xs.drop i := by
  unfold cutV
  rw [HT.sIx_none, HT.sIx_nat]
  by_cases h : i ≤ xs.length
  · rw [Nat.min_eq_left h, List.take_of_length_le (by rw [List.length_drop]; omega)]
  · rw [Nat.min_eq_right (by omega), List.drop_of_length_le (Nat.le_refl _), List.drop_of_length_le (show xs.length ≤ i by omega), List.take_nil]
theorem cut_mid (xs : List V) (i j : Nat) : cutV xs (some (i : Int)) (some (j : Int)) = (xs.drop i).take (j - i) := by
  unfold cutV
  rw [HT.sIx_nat, HT.sIx_nat]
  by_cases h : i ≤ xs.length
  · rw [Nat.min_eq_left h]
    by_cases h2 : j ≤ xs.length
    · rw [Nat.min_eq_left h2]
    · rw [Nat.min_eq_right (by omega), List.take_of_length_le (by rw [List.length_drop]; omega), List.take_of_length_le (by rw [List.length_drop]; omega)]
  · rw [Nat.min_eq_right (by omega : xs.length ≤ i), List.drop_of_length_le (Nat.le_refl _), List.drop_of_length_le (show xs.length ≤ i by omega)]
    simp
theorem el_to {th : TE} {ns : List Int} {i : Nat} (h : EvS K te σ H (ns.map V.int)) (h2 : Ev th σ H (.int i)) : EvL (tSl (rSlL K) te tNoPart (tPart th)) σ H ((ns.take i).map V.int) :=
  EvL.is (el_slS h eo_none (eo_some h2)) (by rw [List.map_take]; exact cut_to _ i)
theorem el_from {th : TE} {ns : List Int} {i : Nat} (h : EvS K te σ H (ns.map V.int)) (h2 : Ev th σ H (.int i)) : EvL (tSl (rSlL K) te (tPart th) tNoPart) σ H ((ns.drop i).map V.int) :=
  EvL.is (el_slS h (eo_some h2) eo_none) (by rw [List.map_drop]; exact cut_from _ i)
theorem el_mid {t1 t2 : TE} {ns : List Int} {i j : Nat} (h : EvS K te σ H (ns.map V.int)) (h1 : Ev t1 σ H (.int i)) (h2 : Ev t2 σ H (.int j)) : EvL (tSl (rSlL K) te (tPart t1) (tPart t2)) σ H (((ns.drop i).take (j - i)).map V.int) :=
  EvL.is (el_slS h (eo_some h1) (eo_some h2)) (by rw [List.map_take, List.map_drop]; exact cut_mid _ i j)
section
variable {D : Ends} {tz : TS} {sp : Sp} {dvs vs : List V} {E : XK} {tA : TA}
/-- x = f(..), whatever f promises -/
theorem q_asgC {i : Nat} (h : EvA tA σ H vs) (k : ∀ H1, Ex H H1 → sp (vs ++ dvs) H1 (fun x H2 => tz D (σ.set i (some x)) H2) E) : tSeq (tAsg (tCall sp dvs E tA) (gName i)) tz D σ H := h H (Ex.refl H) _ fun H1 e => k H1 e
theorem s_asgC {i : Nat} (h : EvA tA σ H vs) (k : ∀ H1, Ex H H1 → sp (vs ++ dvs) H1 (fun x H2 => D.nx (σ.set i (some x)) H2) E) : tAsg (tCall sp dvs E tA) (gName i) D σ H := h H (Ex.refl H) _ fun H1 e => k H1 e
theorem q_dropC (h : EvA tA σ H vs) (k : ∀ H1, Ex H H1 → sp (vs ++ dvs) H1 (fun _ H2 => tz D σ H2) E) : tSeq (tDrop (tCall sp dvs E tA)) tz D σ H := h H (Ex.refl H) _ fun H1 e => k H1 e
theorem s_retC (h : EvA tA σ H vs) (k : ∀ H1, Ex H H1 → sp (vs ++ dvs) H1 D.rt E) : tRet (tCall sp dvs E tA) D σ H := h H (Ex.refl H) _ fun H1 e => k H1 e
end
theorem gl_get {ns : List Int} {i : Nat} (h : i < ns.length) : ns[i]? = some (ns.getD i 0) := by
  rw [List.getD_eq_getElem?_getD, List.getElem?_eq_getElem h]
  rfl
theorem q_asgRaw {te : TE} {i : Nat} {D : Ends} {tz : TS} (P : V → Hp → Prop) (h : ∀ Q : VK, (∀ x H2, P x H2 → Q x H2) → te σ H Q) (k : ∀ x H2, P x H2 → tz D (σ.set i (some x)) H2) : tSeq (tAsg te (gName i)) tz D σ H := h _ k
/-- a, b = a pair -/
theorem q_asgT {te : TE} {i j : Nat} {D : Ends} {tz : TS} (P : V → V → Hp → Prop) (h : ∀ Q : VK, (∀ t x y H2, P x y H2 → SqT K H2 t [x, y] → Q (.ref t) H2) → te σ H Q) (k : ∀ x y H2, P x y H2 → tz D ((σ.set i (some x)).set j (some y)) H2) :
    tSeq (tAsg te (gTup K 2 (gCons (gName i) (gCons (gName j) gNil)))) tz D σ H := h _ fun t x y H2 hP hT => ⟨t, [x, y], rfl, hT, rfl, x, [y], rfl, y, [], rfl, rfl, k x y H2 hP⟩
/-- the law's cell -/
def cellI (ns : List Int) (k : Int) : Int := ns.getD k.toNat 0
theorem cellI_in {ns : List Int} {k : Int} (h0 : 0 ≤ k) (h : k < ns.length) : ns[k.toNat]? = some (cellI ns k) := by
  unfold cellI
  rw [List.getD_eq_getElem?_getD, List.getElem?_eq_getElem (by omega)]
  rfl
theorem cellI_out {ns : List Int} {k : Int} (h : ¬ k < ns.length) : cellI ns k = 0 := by
  unfold cellI
  rw [List.getD_eq_getElem?_getD, List.getElem?_eq_none (by omega)]
  rfl
end
theorem Ex.get {H H' : Hp} {a : Addr} {o : HO} (e : Ex H H') (h : H a = some o) : H' a = some o := e a o h
local macro_rules | `(tactic| walk_at "hp") => `(tactic| first
  | assumption
  | exact upd_same
  | (refine' Ex.get (by assumption) ?h1; (case h1 => walk_at "hp")))
local macro_rules | `(tactic| walk_at "ex") => `(tactic| first
  | assumption
  | exact Ex.refl _
  | (refine' Ex.trans ?h1 (by assumption); (case h1 => walk_at "ex")))
local macro_rules | `(tactic| walk_at "sq") => `(tactic| first
  | assumption
  | (refine' sq_of ?h1; (case h1 => walk_at "hp"))
  | (refine' ex_l (by assumption) ?h1; (case h1 => walk_at "sq")))
local macro_rules | `(tactic| walk_at "evs") => `(tactic| first
  | (refine' Ev.s ?h1 ?h2; (case h1 => exact ev_var rfl); (case h2 => walk_at "sq"))
  | (refine' EvR.s ?h1; (case h1 => walk_at "evr")))
local macro_rules | `(tactic| walk_at "evr") => `(tactic| first
  | (refine' Ev.r ?h1 ?h2; (case h1 => exact ev_var rfl); (case h2 => walk_at "hp"))
  | (refine' EvL.r ?h1; (case h1 => walk_at "el")))
local macro_rules | `(tactic| walk_at "eo") => `(tactic| first
  | exact eo_none
  | (refine' eo_some ?h1; (case h1 => walk_at "ev")))
local macro_rules | `(tactic| walk_at "el") => `(tactic| first
  | (refine' el_lst ?h1 ?h2; (case h1 => walk_at "ea"); (case h2 => exact Nat.le_of_ble_eq_true rfl))
  | (refine' el_cat ?h1 ?h2 ?h3; (case h1 => walk_at "evr"); (case h2 => walk_at "evr"); (case h3 => walk_at "len"))
  | (refine' el_rep ?h1 ?h2 ?h3 ?h4; (case h1 => walk_at "evr"); (case h2 => walk_at "ev"); (case h3 => walk_at "side2"); (case h4 => walk_at "len"))
  | (refine' el_of ?h1; (case h1 => walk_at "evs"))
  | (refine' el_to ?h1 ?h2; (case h1 => walk_at "evs"); (case h2 => walk_at "ev"))
  | (refine' el_from ?h1 ?h2; (case h1 => walk_at "evs"); (case h2 => walk_at "ev"))
  | (refine' el_mid ?h1 ?h2 ?h3; (case h1 => walk_at "evs"); (case h2 => walk_at "ev"); (case h3 => walk_at "ev"))
  | (refine' el_slS ?h1 ?h2 ?h3; (case h1 => walk_at "evs"); (case h2 => walk_at "eo"); (case h3 => walk_at "eo"))
  | walk_at "elmore")
local macro_rules | `(tactic| walk_at "evmore") => `(tactic| first
  | (refine' ev_lenS ?h1; (case h1 => walk_at "evs"))
  | (refine' ev_sum ?h1; (case h1 => walk_at "evs"))
  | (refine' ev_eqI ?h1 ?h2; (case h1 => walk_at "evs"); (case h2 => walk_at "evs"))
  | (refine' ev_neI ?h1 ?h2; (case h1 => walk_at "evs"); (case h2 => walk_at "evs"))
  | (refine' ev_at ?h1 ?h2 ?h3; (case h1 => walk_at "evs"); (case h2 => walk_at "ev"); (case h3 => walk_at "at"))
  | (refine' ev_isiL ?h1 ?h2; (case h1 => walk_at "ev"); (case h2 => walk_at "hp"))
  | walk_at "evown")
local macro_rules | `(tactic| walk_at "at") => `(tactic| first
  | exact at_of rfl (at_int (by assumption))
  | exact at_of rfl (by assumption))
local macro_rules | `(tactic| walk_at "asgL") => `(tactic| (refine' q_asgL ?h ?h1; (case h => walk_at "el")))
local macro_rules | `(tactic| walk_at "retL") => `(tactic| (refine' s_retL ?h ?h1; (case h => walk_at "el")))

/-! ### comprehensions whose items are said in a list -/
theorem et_yes {σ : L2.St} {H : Hp} : EvT tYes σ H true := fun H1 _ _ q => q H1 (Ex.refl H1)
section
variable {K : PySem.W.Frag} {σ : L2.St} {H : Hp} {t1 t2 te : TE} {xs ys zs : List V} {vs : List Nat}
theorem take_snoc {zs : List V} {i : Nat} {z : V} (h : zs[i]? = some z) : zs.take (i + 1) = zs.take i ++ [z] := by
  rw [List.take_add_one, h]
  rfl
theorem el_lcZ {j1 j2 : Nat} (zs : List V) (h1 : EvS K t1 σ H xs) (h2 : EvS K t2 σ H ys) (hz : zs.length = min xs.length ys.length) (hb : zs.length ≤ 50000)
    (hw : ∀ x y, wipe (((wipe σ vs).set j1 (some x)).set j2 (some y)) vs = wipe σ vs)
    (he : ∀ (i : Nat) (x y : V) H1, Ex H H1 → xs[i]? = some x → ys[i]? = some y → ∃ z, zs[i]? = some z ∧ Ev te (((wipe σ vs).set j1 (some x)).set j2 (some y)) H1 z) :
    EvL (tLc (iZip K (tCons t1 (tCons t2 tNil))) (gTup K 2 (gCons (gName j1) (gCons (gName j2) gNil))) tYes te vs) σ H zs := fun H0 e Q q =>
  h1 H0 e _ fun p H1 e1 hp => h2 H1 (e.trans e1) _ fun r H2 e2 hr => ⟨p, r, xs, ys, rfl, ex_l e2 hp, hr, fun D hD =>
    ⟨fun i m H' => m = zs.length - i ∧ i ≤ zs.length ∧ Ex H2 H' ∧ H' D = some (.lst (zs.take i)), ⟨zs.length, rfl, Nat.zero_le _, Ex.new hD, upd_same⟩, by
      rintro i m H' ⟨rfl, hi, ex, hd⟩
      have qx : SqL K H' p xs := ex_l (e2.trans ex) hp
      have qy : SqL K H' r ys := ex_l ex hr
      by_cases hlt : i < zs.length
      · have hx : xs[i]? = some xs[i] := List.getElem?_eq_getElem (by omega)
        have hy : ys[i]? = some ys[i] := List.getElem?_eq_getElem (by omega)
        refine .inr ⟨⟨xs, ys, _, _, qx, qy, hx, hy⟩, fun H3 => i + 1 ≤ zs.length ∧ Ex H2 H3 ∧ H3 D = some (.lst (zs.take (i + 1))), fun H3 h3 => ⟨zs.length - (i + 1), by omega, rfl, h3⟩, fun v H3 hv => ?_⟩
        obtain ⟨T, x, y, rfl, hT, rfl, f1, f2⟩ := hv
        have ex3 : Ex H' (upd H' T (.tup [x, y])) := Ex.new hT
        obtain ⟨z, hz1, hz2⟩ := he i x y (upd H' T (.tup [x, y])) ((((e.trans e1).trans e2).trans ex).trans ex3) (f1 _ qx) (f2 _ qy)
        refine ⟨T, [x, y], rfl, st_of upd_same, rfl, x, [y], rfl, y, [], rfl, rfl, hw x y, ?_⟩
        refine hz2 _ (Ex.refl _) _ fun H4 e4 => ⟨zs.take i, e4 _ _ (ex3 _ _ hd), sz_lt (by rw [List.length_take]; omega), hlt, ?_, ?_⟩
        · exact Ex.mut ((ex.trans ex3).trans e4) hD
        · rw [upd_same, take_snoc hz1]
      · have ei : i = zs.length := by omega
        refine .inl ⟨⟨xs, ys, qx, qy, by omega⟩, ?_⟩
        rw [ei, List.take_length] at hd
        exact q D H' (fresh_back (e1.trans e2) hD) ((e1.trans e2).trans ex) hd⟩⟩
/-- over a list, each item kept -/
theorem el_lcS {j : Nat} (zs : List V) (h1 : EvS K t1 σ H xs) (hz : zs.length = xs.length) (hb : zs.length ≤ 50000) (hw : ∀ x, wipe ((wipe σ vs).set j (some x)) vs = wipe σ vs)
    (he : ∀ (i : Nat) (x : V) H1, Ex H H1 → xs[i]? = some x → ∃ z, zs[i]? = some z ∧ Ev te ((wipe σ vs).set j (some x)) H1 z) :
    EvL (tLc (iList K t1) (gName j) tYes te vs) σ H zs := fun H0 e Q q =>
  h1 H0 e _ fun p H1 e1 hp => ⟨p, rfl, ⟨xs, hp⟩, fun D hD => lc_list (xs := xs) (fun i H' => Ex H1 H' ∧ H' D = some (.lst (zs.take i))) ⟨Ex.new hD, upd_same⟩ (fun i H' _ h => ex_l h.1 hp)
    (fun i x H' hi h => ⟨hw x, by
      obtain ⟨z, hz1, hz2⟩ := he i x H' ((e.trans e1).trans h.1) hi
      have hl : i < xs.length := (List.getElem?_eq_some_iff.mp hi).1
      refine hz2 H' (Ex.refl _) _ fun H4 e4 => ⟨zs.take i, e4 _ _ h.2, sz_lt (by rw [List.length_take]; omega), Ex.mut (h.1.trans e4) hD, ?_⟩
      rw [upd_same, take_snoc hz1]⟩)
    (fun H' h => q D H' (fresh_back e1 hD) (e1.trans h.1) (by rw [h.2, ← hz, List.take_length]))⟩
/-- over range(n) -/
theorem el_lcR {ta : TA} {n : Int} {j : Nat} (zs : List V) (h1 : EvA ta σ H [.int n]) (hn : -100000 ≤ n) (hz : zs.length = n.toNat) (hb : zs.length ≤ 50000) (hw : ∀ x, wipe ((wipe σ vs).set j (some x)) vs = wipe σ vs)
    (he : ∀ (i : Nat) H1, Ex H H1 → i < zs.length → ∃ z, zs[i]? = some z ∧ Ev te ((wipe σ vs).set j (some (.int (i : Int)))) H1 z) :
    EvL (tLc (iRng1 ta) (gName j) tYes te vs) σ H zs := fun H0 e Q q =>
  h1 H0 e _ fun H1 e1 => ⟨n, rfl, by omega, by omega, fun D hD => lc_range (lo := 0) (n := n.toNat) (fun i H' => Ex H1 H' ∧ H' D = some (.lst (zs.take i))) ⟨Ex.new hD, upd_same⟩
    (fun i H' hi h => by
      have e0 : (0 : Int) + (i : Int) = (i : Int) := Int.zero_add _
      rw [e0]
      obtain ⟨z, hz1, hz2⟩ := he i H' ((e.trans e1).trans h.1) (by omega)
      refine ⟨hw _, hz2 H' (Ex.refl _) _ fun H4 e4 => ⟨zs.take i, e4 _ _ h.2, sz_lt (by rw [List.length_take]; omega), Ex.mut (h.1.trans e4) hD, ?_⟩⟩
      rw [upd_same, take_snoc hz1])
    (fun H' h => q D H' (fresh_back e1 hD) (e1.trans h.1) (by rw [h.2, show n.toNat = zs.length by omega, List.take_length]))⟩
/-- y = [.. for x in f(..)], whatever f promises -/
theorem s_asgLC {sp : Sp} {dvs args : List V} {E : XK} {ta : TA} {g : TG} {tt : TT} {D : Ends} {i : Nat} (h : EvA ta σ H args) (k : ∀ H1, Ex H H1 → sp (args ++ dvs) H1 (fun x H2 => tAsg (tLc (iList K (tC x)) g tt te vs) (gName i) D σ H2) E) :
    tAsg (tLc (iList K (tCall sp dvs E ta)) g tt te vs) (gName i) D σ H := h H (Ex.refl H) _ fun H1 e => k H1 e
theorem q_asgLC {sp : Sp} {dvs args : List V} {E : XK} {ta : TA} {g : TG} {tt : TT} {D : Ends} {i : Nat} {tz : TS} (h : EvA ta σ H args) (k : ∀ H1, Ex H H1 → sp (args ++ dvs) H1 (fun x H2 => tSeq (tAsg (tLc (iList K (tC x)) g tt te vs) (gName i)) tz D σ H2) E) :
    tSeq (tAsg (tLc (iList K (tCall sp dvs E ta)) g tt te vs) (gName i)) tz D σ H := h H (Ex.refl H) _ fun H1 e => k H1 e
end

/-! ### calls with keywords, defaults -/
theorem kwAll1 {K : PySem.W.Frag} {D : Addr} {q : Str × V} (h : ∃ u, PySem.W.nsIn K D q.1 = some (some u) ∧ RelV q.2 u) : ∀ p ∈ [q], ∃ u, PySem.W.nsIn K D p.1 = some (some u) ∧ RelV p.2 u := fun p hp => by
  rcases List.mem_cons.mp hp with rfl | hp
  · exact h
  · cases hp
section
variable {K : PySem.W.Frag} {x qual : Str} {params : Arguments} {body : List Stmt} {scope : Scope} {dvs : List V} {kws : List (Str × V)} {f : Addr} {fd : FuncData} {ps : List Str}
/-- f(a, .., k = v, ..), nothing left to a default, no defaults of place -/
theorem fund_kb0 {g : List Value → List Value → List Value} {gV : List V → List V → List V} (F : FunD K x qual params body scope [] kws f fd) (n : Nat) (ks : List Str)
    (hrel : ∀ {vs : List V} {us : List Value} {zs : List V} {ws : List Value}, Vals vs us → Vals zs ws → Vals (gV vs zs) (g us ws))
    (h : ∀ (kV doc pm : Value) (an : Option Addr) (cdv ct : Value) (us ws : List Value), us.length = n → ws.length = ks.length → bindArgs (PySem.W.fnOf x qual params body scope .none kV doc pm an cdv ct) ⟨us, ks.zip ws⟩ = pure (ps.zip (g us ws))) :
    KBn K fd ps n ks g gV := by
  obtain ⟨oc, od, dV, kV, doc, pm, an, cdv, ct, osl, rfl, lk, hcd, hD, hK⟩ := F.ex
  rcases hD with ⟨_, rfl⟩ | ⟨e, _⟩
  · exact ⟨fun s us ws X l1 l2 => .of_eq (h kV doc pm an cdv ct us ws l1 l2), hrel⟩
  · exact absurd rfl e
/-- the same of a def with defaults of place -/
theorem fund_kb1 {g : List Value → List Value → List Value} {gV : List V → List V → List V} (F : FunD K x qual params body scope dvs kws f fd) (hd : dvs ≠ []) (n : Nat) (ks : List Str)
    (hrel : ∀ {vs : List V} {us : List Value} {zs : List V} {ws : List Value}, Vals vs us → Vals zs ws → Vals (gV vs zs) (g us ws))
    (h : ∀ (T : Addr) (kV doc pm : Value) (an : Option Addr) (cdv ct : Value) (us its ws : List Value), us.length = n → its.length = dvs.length → ws.length = ks.length →
      ∃ k, bindArgs (PySem.W.fnOf x qual params body scope (.ref T) kV doc pm an cdv ct) ⟨us, ks.zip ws⟩ = seqItems? (.ref T) >>= k ∧ k (some its.toArray) = pure (ps.zip (g us ws))) :
    KBn K fd ps n ks g gV := by
  obtain ⟨oc, od, dV, kV, doc, pm, an, cdv, ct, osl, rfl, lk, hcd, hD, hK⟩ := F.ex
  rcases hD with ⟨e, _⟩ | ⟨_, T, o, its, m, rfl, lT, oT, rT⟩
  · exact absurd e hd
  · refine ⟨fun s us ws X l1 l2 => ?_, hrel⟩
    obtain ⟨k, e1, e2⟩ := h T kV doc pm an cdv ct us its ws l1 rT.length.symm l2
    refine BindsTo.of_looks fun M => ?_
    rw [e1]
    exact looks_items X lT oT (.of_pure e2)
end

/-- what the top has left -/
structure TX (K : PySem.W.Frag) (mg : Str → Option Value) where
  a_MonochordError_init : Addr
  d_MonochordError_init : FuncData
  F_MonochordError_init : Fun K "__init__" "MonochordError.__init__" s_MonochordError_init a_MonochordError_init d_MonochordError_init
  b_MonochordError_init : Binds K d_MonochordError_init ["self", "place"] []
  a_BitReader_init : Addr
  d_BitReader_init : FuncData
  F_BitReader_init : FunD K "__init__" "BitReader.__init__" (defArgs s_BitReader_init) (defBody s_BitReader_init) (defScope s_BitReader_init) [V.int 0] [] a_BitReader_init d_BitReader_init
  e3_BitReader_init : List Value
  v3_BitReader_init : Vals [] e3_BitReader_init
  b3_BitReader_init : Binds K d_BitReader_init ["self", "data", "at"] e3_BitReader_init
  e2_BitReader_init : List Value
  v2_BitReader_init : Vals [V.int 0] e2_BitReader_init
  b2_BitReader_init : Binds K d_BitReader_init ["self", "data", "at"] e2_BitReader_init
  a_BitReader_read : Addr
  d_BitReader_read : FuncData
  F_BitReader_read : Fun K "read" "BitReader.read" s_BitReader_read a_BitReader_read d_BitReader_read
  b_BitReader_read : Binds K d_BitReader_read ["self", "width"] []
  a_BitReader_read_signed : Addr
  d_BitReader_read_signed : FuncData
  F_BitReader_read_signed : Fun K "read_signed" "BitReader.read_signed" s_BitReader_read_signed a_BitReader_read_signed d_BitReader_read_signed
  b_BitReader_read_signed : Binds K d_BitReader_read_signed ["self", "width"] []
  a_BitReader_read_unary : Addr
  d_BitReader_read_unary : FuncData
  F_BitReader_read_unary : Fun K "read_unary" "BitReader.read_unary" s_BitReader_read_unary a_BitReader_read_unary d_BitReader_read_unary
  b_BitReader_read_unary : Binds K d_BitReader_read_unary ["self"] []
  a_BitReader_read_bytes : Addr
  d_BitReader_read_bytes : FuncData
  F_BitReader_read_bytes : Fun K "read_bytes" "BitReader.read_bytes" s_BitReader_read_bytes a_BitReader_read_bytes d_BitReader_read_bytes
  b_BitReader_read_bytes : Binds K d_BitReader_read_bytes ["self", "count"] []
  a_BitReader_since : Addr
  d_BitReader_since : FuncData
  F_BitReader_since : Fun K "since" "BitReader.since" s_BitReader_since a_BitReader_since d_BitReader_since
  b_BitReader_since : Binds K d_BitReader_since ["self", "place"] []
  a_BitReader_rest_of_byte : Addr
  d_BitReader_rest_of_byte : FuncData
  F_BitReader_rest_of_byte : Fun K "_rest_of_byte" "BitReader._rest_of_byte" s_BitReader_rest_of_byte a_BitReader_rest_of_byte d_BitReader_rest_of_byte
  b_BitReader_rest_of_byte : Binds K d_BitReader_rest_of_byte ["self"] []
  a_BitReader_byte_place : Addr
  d_BitReader_byte_place : FuncData
  F_BitReader_byte_place : Fun K "byte_place" "BitReader.byte_place" s_BitReader_byte_place a_BitReader_byte_place d_BitReader_byte_place
  b_BitReader_byte_place : Binds K d_BitReader_byte_place ["self"] []
  a_BitReader_bit_place : Addr
  d_BitReader_bit_place : FuncData
  F_BitReader_bit_place : Fun K "bit_place" "BitReader.bit_place" s_BitReader_bit_place a_BitReader_bit_place d_BitReader_bit_place
  b_BitReader_bit_place : Binds K d_BitReader_bit_place ["self"] []
  a_BitReader_aligned : Addr
  d_BitReader_aligned : FuncData
  F_BitReader_aligned : Fun K "aligned" "BitReader.aligned" s_BitReader_aligned a_BitReader_aligned d_BitReader_aligned
  b_BitReader_aligned : Binds K d_BitReader_aligned ["self"] []
  a_law_draw : Addr
  d_law_draw : FuncData
  F_law_draw : Fun K "_law_draw" "_law_draw" s_law_draw a_law_draw d_law_draw
  b_law_draw : Binds K d_law_draw ["cell", "many", "bound"] []
  g_law_draw : mg "_law_draw" = some (.ref a_law_draw)
  a_law_is_integer : Addr
  d_law_is_integer : FuncData
  F_law_is_integer : Fun K "_law_is_integer" "_law_is_integer" s_law_is_integer a_law_is_integer d_law_is_integer
  b_law_is_integer : Binds K d_law_is_integer ["actual"] []
  g_law_is_integer : mg "_law_is_integer" = some (.ref a_law_is_integer)
  a_law_same : Addr
  d_law_same : FuncData
  F_law_same : Fun K "_law_same" "_law_same" s_law_same a_law_same d_law_same
  b_law_same : Binds K d_law_same ["actual", "expected"] []
  g_law_same : mg "_law_same" = some (.ref a_law_same)
  a_law_data : Addr
  d_law_data : FuncData
  F_law_data : Fun K "_law_data" "_law_data" s_law_data a_law_data d_law_data
  b_law_data : Binds K d_law_data ["cell", "more"] []
  g_law_data : mg "_law_data" = some (.ref a_law_data)
  a_law_all_bits : Addr
  d_law_all_bits : FuncData
  F_law_all_bits : Fun K "_law_all_bits" "_law_all_bits" s_law_all_bits a_law_all_bits d_law_all_bits
  b_law_all_bits : Binds K d_law_all_bits ["data"] []
  g_law_all_bits : mg "_law_all_bits" = some (.ref a_law_all_bits)
  a_law_number : Addr
  d_law_number : FuncData
  F_law_number : Fun K "_law_number" "_law_number" s_law_number a_law_number d_law_number
  b_law_number : Binds K d_law_number ["bits"] []
  g_law_number : mg "_law_number" = some (.ref a_law_number)
  a_law_due : Addr
  d_law_due : FuncData
  F_law_due : Fun K "_law_due" "_law_due" s_law_due a_law_due d_law_due
  b_law_due : Binds K d_law_due ["bits", "at", "kind", "width"] []
  g_law_due : mg "_law_due" = some (.ref a_law_due)
  a_law_read : Addr
  d_law_read : FuncData
  F_law_read : Fun K "_law_read" "_law_read" s_law_read a_law_read d_law_read
  b_law_read : Binds K d_law_read ["reader", "kind", "width"] []
  g_law_read : mg "_law_read" = some (.ref a_law_read)
  a_law_fits : Addr
  d_law_fits : FuncData
  F_law_fits : Fun K "_law_fits" "_law_fits" s_law_fits a_law_fits d_law_fits
  b_law_fits : Binds K d_law_fits ["told", "due", "size"] []
  g_law_fits : mg "_law_fits" = some (.ref a_law_fits)
  a_law_placed : Addr
  d_law_placed : FuncData
  F_law_placed : Fun K "_law_placed" "_law_placed" s_law_placed a_law_placed d_law_placed
  b_law_placed : Binds K d_law_placed ["reader", "at"] []
  g_law_placed : mg "_law_placed" = some (.ref a_law_placed)
  a_law_cell : Addr
  d_law_cell : FuncData
  F_law_cell : Fun K "_law_cell" "_law_cell" s_law_cell a_law_cell d_law_cell
  b_law_cell : Binds K d_law_cell ["script", "k"] []
  g_law_cell : mg "_law_cell" = some (.ref a_law_cell)
  a_law : Addr
  d_law : FuncData
  F_law : Fun K "law" "law" s_law a_law d_law
  b_law : Binds K d_law ["script"] []
  g_law : mg "law" = some (.ref a_law)
  C_BitReader : Addr
  cl_BitReader : Cls K C_BitReader
  g_BitReader : mg "BitReader" = some (.ref C_BitReader)
  M_BitReader : Mk K C_BitReader a_BitReader_init
  me_BitReader_read : Meth K C_BitReader "read" a_BitReader_read
  me_BitReader_read_signed : Meth K C_BitReader "read_signed" a_BitReader_read_signed
  me_BitReader_read_unary : Meth K C_BitReader "read_unary" a_BitReader_read_unary
  me_BitReader_read_bytes : Meth K C_BitReader "read_bytes" a_BitReader_read_bytes
  me_BitReader_since : Meth K C_BitReader "since" a_BitReader_since
  me_BitReader_rest_of_byte : Meth K C_BitReader "_rest_of_byte" a_BitReader_rest_of_byte
  me_BitReader_byte_place : Meth K C_BitReader "byte_place" a_BitReader_byte_place
  me_BitReader_bit_place : Meth K C_BitReader "bit_place" a_BitReader_bit_place
  me_BitReader_aligned : Meth K C_BitReader "aligned" a_BitReader_aligned
  n_BitReader_data : NoAttr K C_BitReader "_data"
  n_BitReader_position : NoAttr K C_BitReader "_position"
  C_MonochordError : Addr
  g_MonochordError : mg "MonochordError" = some (.ref C_MonochordError)
  x_MonochordError : ExK K C_MonochordError a_MonochordError_init "MonochordError"
  C_Truncated : Addr
  g_Truncated : mg "Truncated" = some (.ref C_Truncated)
  x_Truncated : ExK K C_Truncated a_MonochordError_init "Truncated"
  C_InvalidForm : Addr
  g_InvalidForm : mg "InvalidForm" = some (.ref C_InvalidForm)
  x_InvalidForm : ExK K C_InvalidForm a_MonochordError_init "InvalidForm"
  ti_MonochordError_init : PySem.W.typeIn K (.ref a_MonochordError_init) = some (.type "function")
  sv_MonochordError : PySem.W.subIn K (.ref C_MonochordError) (.type "ValueError") = some true
  su_MonochordError_MonochordError : PySem.W.subIn K (.ref C_MonochordError) (.ref C_MonochordError) = some true
  su_MonochordError_Truncated : PySem.W.subIn K (.ref C_MonochordError) (.ref C_Truncated) = some false
  su_MonochordError_InvalidForm : PySem.W.subIn K (.ref C_MonochordError) (.ref C_InvalidForm) = some false
  sv_Truncated : PySem.W.subIn K (.ref C_Truncated) (.type "ValueError") = some true
  su_Truncated_MonochordError : PySem.W.subIn K (.ref C_Truncated) (.ref C_MonochordError) = some true
  su_Truncated_Truncated : PySem.W.subIn K (.ref C_Truncated) (.ref C_Truncated) = some true
  su_Truncated_InvalidForm : PySem.W.subIn K (.ref C_Truncated) (.ref C_InvalidForm) = some false
  sv_InvalidForm : PySem.W.subIn K (.ref C_InvalidForm) (.type "ValueError") = some true
  su_InvalidForm_MonochordError : PySem.W.subIn K (.ref C_InvalidForm) (.ref C_MonochordError) = some true
  su_InvalidForm_Truncated : PySem.W.subIn K (.ref C_InvalidForm) (.ref C_Truncated) = some false
  su_InvalidForm_InvalidForm : PySem.W.subIn K (.ref C_InvalidForm) (.ref C_InvalidForm) = some true
  m_len : mg "len" = none
  m_range : mg "range" = none
  m_int : mg "int" = none
  m_isinstance : mg "isinstance" = none
  m_bool : mg "bool" = none
  m_list : mg "list" = none
  m_ValueError : mg "ValueError" = none
  m_max : mg "max" = none
section
variable {P : Program} {w : World} {K : PySem.W.Frag} {mg : Str → Option Value} {base : Heap}
/-! ### int(x), bits of a number -/
theorem Ev.is {σ : L2.St} {H : Hp} {te : TE} {x y : V} (h : Ev te σ H x) (e : x = y) : Ev te σ H y := e ▸ h
theorem ev_int1 {σ : L2.St} {H : Hp} {te : TE} {i : Int} (h : Ev te σ H (.int i)) : Ev (tCB (fun xs H Q => (∃ i, xs = [V.int i] ∧ Q (V.int i) H) ∨ ∃ k, xs = [V.bl k] ∧ Q (V.int (if k = true then 1 else 0)) H) (tCons te tNil)) σ H (.int i) :=
  ev_cb (ea_cons h ea_nil) fun H1 _ Q q => .inl ⟨i, rfl, q H1 (Ex.refl H1)⟩
theorem q_augR {σ : L2.St} {H : Hp} {te : TE} {D : Ends} {tz : TS} {i : Nat} {g : Int → Int → V} {a b : Int} (h1 : σ[i]? = some (some (.int a))) (h : Ev te σ H (.int b)) (k : ∀ H1, Ex H H1 → tz D (σ.set i (some (g a b))) H1) : tSeq (tAug i te (rI0 g)) tz D σ H :=
  ⟨_, h1, h H (Ex.refl H) _ fun H1 e => ⟨a, b, rfl, rfl, k H1 e⟩⟩
theorem s_augR {σ : L2.St} {H : Hp} {te : TE} {D : Ends} {i : Nat} {g : Int → Int → V} {a b : Int} (h1 : σ[i]? = some (some (.int a))) (h : Ev te σ H (.int b)) (k : ∀ H1, Ex H H1 → D.nx (σ.set i (some (g a b))) H1) : tAug i te (rI0 g) D σ H :=
  ⟨_, h1, h H (Ex.refl H) _ fun H1 e => ⟨a, b, rfl, rfl, k H1 e⟩⟩
theorem ev_atT {K : PySem.W.Frag} {σ : L2.St} {H : Hp} {tl ti : TE} {t : Addr} {xs : List V} {n : Int} {v : V} (h : Ev tl σ H (.ref t)) (hT : SqT K H t xs) (hi : Ev ti σ H (.int n)) (ha : atI xs n = some v) : Ev (tOp (rIxT K) tl ti) σ H v := fun H1 e Q q =>
  h H1 e _ fun H2 e2 => hi H2 (e.trans e2) _ fun H3 e3 => ⟨t, xs, n, v, rfl, rfl, ex_t ((e.trans e2).trans e3) hT, ha, q H3 (e2.trans e3)⟩
local macro_rules | `(tactic| walk_at "side") => `(tactic| first
  | omega
  | (show CDivW _ _; exact ⟨by omega, by decide⟩)
  | (show CDivW _ _; exact wide_div (b := 80) (by omega) (by omega) (by decide) (by decide)))
local macro_rules | `(tactic| walk_at "evown") => `(tactic| (refine' ev_int1 ?h1; (case h1 => walk_at "ev")))
/-- numbers from 0 on, as such -/
def cs (ds : List Nat) : List Int := ds.map fun d : Nat => (d : Int)
theorem cs_of {ns : List Int} {b : Int} (h : ∀ n ∈ ns, 0 ≤ n ∧ n < b) : ∃ ds : List Nat, ns = cs ds ∧ ds.length = ns.length ∧ ∀ d ∈ ds, (d : Int) < b := by
  refine ⟨ns.map Int.toNat, ?_, List.length_map .., fun d hd => ?_⟩
  · unfold cs
    rw [List.map_map]
    conv => lhs; rw [← List.map_id ns]
    refine List.map_congr_left fun n hn => ?_
    have := (h n hn).1
    show n = ((n.toNat : Nat) : Int)
    omega
  · obtain ⟨n, hn, rfl⟩ := List.mem_map.mp hd
    have := h n hn
    omega
theorem cs_len (ds : List Nat) : (cs ds).length = ds.length := List.length_map ..
theorem cs_at {ds : List Nat} {i : Nat} {d : Nat} (h : ds[i]? = some d) : (cs ds)[i]? = some (d : Int) := by unfold cs; rw [List.getElem?_map, h]; rfl
theorem cs_take (ds : List Nat) (i : Nat) : (cs ds).take i = cs (ds.take i) := by unfold cs; rw [List.map_take]
theorem cs_drop (ds : List Nat) (i : Nat) : (cs ds).drop i = cs (ds.drop i) := by unfold cs; rw [List.map_drop]
theorem cs_append (ds es : List Nat) : cs (ds ++ es) = cs ds ++ cs es := List.map_append ..

/-- numbers of the law -/
def sp_draw : Sp := fun vs H Q _ => ∃ c m b : Int, vs = [.int c, .int m, .int b] ∧ 0 ≤ m ∧ m ≤ 5000 ∧ 0 < b ∧ b ≤ 2 ^ 64 ∧ ∀ p (ns : List Int) H', H p = none → Ex H H' → H' p = some (.lst (ns.map V.int)) → (ns.length : Int) = m → (∀ n ∈ ns, 0 ≤ n ∧ n < b) → Q (.ref p) H'
theorem ok_law_draw (T : TX K mg) : FnOk P w K mg base CX0 1 T.a_law_draw T.d_law_draw ["cell", "many", "bound"] sp_draw := by
  refine T.F_law_draw.ok sc_law_draw (fun vs H Q E h => by obtain ⟨c, m, b, rfl, _⟩ := h; rfl) (fun cdv A outer s H vs Q E hr h => ?_)
  obtain ⟨c, m, b, rfl, hm0, hm, hb0, hb, k⟩ := h
  have hb' : b ≤ 18446744073709551616 := hb
  refine ⟨_, (pss_cons (ps_set (i := 3) sc_law_draw.nd rfl (Or.inl rfl) (pe_lst pa_nil))
      (pss_cons (ps_if (pt_cmpR op_ge (pv 0) (pe_op op_pow pe_int pe_int) (nomark _)) (pss_cons (ps_for PassesOwn.never rfl (pi_range1 (by rfl) T.m_range (pa_cons (pv 1) pa_nil)) (pg_name (i := 4) sc_law_draw.nd rfl (Or.inl rfl)) (pss_cons (ps_expr (pe_bm PySem.F.plainAttrs_list PySem.F.slot_list_append PySem.F.type_list_append mt_append (pv 3) (pa_cons (pe_op op_mod (pe_callTy call_int1 (by rfl) T.m_int PyProof.Rows.boot_int (pa_cons (pv 0) pa_nil)) (pv 2)) pa_nil)))
          (pss_one (ps_set (i := 0) sc_law_draw.nd rfl (Or.inl rfl) (pe_op op_fdivW (pv 0) (pv 2))))))
        (pss_one (ps_ret (pv 3)))) pss_nil)
      (pss_cons (ps_set (i := 5) sc_law_draw.nd rfl (Or.inl rfl) (pe_op op_mod (pe_callTy call_int1 (by rfl) T.m_int PyProof.Rows.boot_int (pa_cons (pv 0) pa_nil)) pe_int))
      (pss_cons (ps_for PassesOwn.never rfl (pi_range1 (by rfl) T.m_range (pa_cons (pv 1) pa_nil)) (pg_name (i := 4) sc_law_draw.nd rfl (Or.inl rfl)) (pss_cons (ps_set (i := 5) sc_law_draw.nd rfl (Or.inl rfl) (pe_op op_mod (pe_callTy call_int1 (by rfl) T.m_int PyProof.Rows.boot_int (pa_cons (pe_op op_add (pe_op op_add (pe_op op_mul (pv 5) pe_int) pe_int) (pv 4)) pa_nil)) pe_int))
        (pss_cons (ps_set (i := 6) sc_law_draw.nd rfl (Or.inl rfl) (pe_op op_mod (pe_callTy call_int1 (by rfl) T.m_int PyProof.Rows.boot_int (pa_cons (pe_op op_add (pe_op op_mul (pv 5) pe_int) (pe_op op_mul pe_int (pv 4))) pa_nil)) pe_int))
        (pss_one (ps_expr (pe_bm PySem.F.plainAttrs_list PySem.F.slot_list_append PySem.F.type_list_append mt_append (pv 3) (pa_cons (pe_op op_mod (pe_callTy call_int1 (by rfl) T.m_int PyProof.Rows.boot_int (pa_cons (pe_op op_fdivW (pv 6) pe_int) pa_nil)) (pv 2)) pa_nil)))))))
      (pss_one (ps_ret (pv 3))))))), ?_⟩
  refine q_asgL (xs := []) (el_lst ea_nil (by decide)) fun p H1 hp e1 h1 => ?_
  refine' q_when (et_test (ev_I0 ?h1 ?h2)) ?_ ?_
  case h1 => walk_at "ev"
  case h2 => exact ev_I (ev_c) (ev_c) ⟨by decide, by decide, by decide⟩
  · intro _ H2 e2
    refine q_forR1 (n := m) (ea_cons (ev_var rfl) ea_nil) ⟨hm0, by omega⟩ (fun i σ' H' => ∃ (c' : Int) (k' : Option V) (ns : List Int), σ' = [some (.int c'), some (.int m), some (.int b), some (.ref p), k', none, none] ∧ Ex H H' ∧ H' p = some (.lst (ns.map V.int)) ∧ ns.length = i ∧ ∀ n ∈ ns, 0 ≤ n ∧ n < b)
      (fun H3 e3 => ⟨c, none, [], rfl, (e1.trans e2).trans e3, e3 _ _ (e2 _ _ h1), rfl, fun n hn => by cases hn⟩) ?_ ?_
    · rintro i σ' H' hi ⟨c', k', ns, rfl, ex, hl, hn, hns⟩
      refine q_app (v := .int (c' % b)) hl (ev_var rfl) (ev_I (ev_int1 (ev_var rfl)) (ev_var rfl) hb0) (by rw [List.length_map]; omega) fun H3 e3 => ?_
      refine s_asg (v := .int (c' / b)) (ev_I (ev_var rfl) (ev_var rfl) (by walk_at "side")) fun H4 e4 => ?_
      refine ⟨c' / b, some (.int i), ns ++ [c' % b], rfl, (Ex.mut (ex.trans e3) hp).trans e4, e4 _ _ (by rw [upd_same, List.map_append]; rfl), by rw [List.length_append, hn]; rfl, fun n hn => ?_⟩
      rcases List.mem_append.mp hn with h | h
      · exact hns n h
      · cases List.mem_singleton.mp h
        exact ⟨Int.emod_nonneg _ (by omega), Int.emod_lt_of_pos _ hb0⟩
    · rintro σ' H' ⟨c', k', ns, rfl, ex, hl, hn, hns⟩
      walk_at "ret"
      intro H3 e3
      exact k p ns H3 hp (ex.trans e3) (e3 _ _ hl) (by omega) hns
  · intro _ H2 e2
    refine q_asg (v := .int (c % 2147483647)) (ev_I (ev_int1 (ev_var rfl)) ev_c (by decide)) fun H3 e3 => ?_
    refine q_forR1 (n := m) (ea_cons (ev_var rfl) ea_nil) ⟨hm0, by omega⟩ (fun i σ' H' => ∃ (k' x : Option V) (sd : Int) (ns : List Int), σ' = [some (.int c), some (.int m), some (.int b), some (.ref p), k', some (.int sd), x] ∧ Ex H H' ∧ H' p = some (.lst (ns.map V.int)) ∧ ns.length = i ∧ ∀ n ∈ ns, 0 ≤ n ∧ n < b)
      (fun H4 e4 => ⟨none, none, _, [], rfl, ((e1.trans e2).trans e3).trans e4, e4 _ _ (e3 _ _ (e2 _ _ h1)), rfl, fun n hn => by cases hn⟩) ?_ ?_
    · rintro i σ' H' hi ⟨k', x, sd, ns, rfl, ex, hl, hn, hns⟩
      refine q_asg (v := .int ((sd * 48271 + 12345 + (i : Int)) % 2147483647)) (ev_I (ev_int1 (ev_I0 (ev_I0 (ev_I (ev_var rfl) ev_c (.inr (by decide))) ev_c) (ev_var rfl))) ev_c (by decide)) fun H4 e4 => ?_
      generalize (sd * 48271 + 12345 + (i : Int)) % 2147483647 = sd2
      refine q_asg (v := .int ((sd2 * 69621 + 977 * (i : Int)) % 2147483629)) (ev_I (ev_int1 (ev_I0 (ev_I (ev_var rfl) ev_c (.inr (by decide))) (ev_I ev_c (ev_var rfl) (.inl (by decide))))) ev_c (by decide)) fun H5 e5 => ?_
      generalize (sd2 * 69621 + 977 * (i : Int)) % 2147483629 = mx
      refine s_app (v := .int (mx / 3 % b)) (e5 _ _ (e4 _ _ hl)) (ev_var rfl) (ev_I (ev_int1 (ev_I (ev_var rfl) ev_c ⟨by decide, by decide⟩)) (ev_var rfl) hb0) (by rw [List.length_map]; omega) fun H6 e6 => ?_
      refine ⟨_, _, sd2, ns ++ [mx / 3 % b], rfl, Ex.mut (((ex.trans e4).trans e5).trans e6) hp, by rw [upd_same, List.map_append]; rfl, by rw [List.length_append, hn]; rfl, fun n hn => ?_⟩
      rcases List.mem_append.mp hn with h | h
      · exact hns n h
      · cases List.mem_singleton.mp h
        exact ⟨Int.emod_nonneg _ (by omega), Int.emod_lt_of_pos _ hb0⟩
    · rintro σ' H' ⟨k', x, sd, ns, rfl, ex, hl, hn, hns⟩
      walk_at "ret"
      intro H4 e4
      exact k p ns H4 hp (ex.trans e4) (e4 _ _ hl) (by omega) hns

def sp_cell (K : PySem.W.Frag) : Sp := fun vs H Q _ => ∃ (a : Addr) (ns : List Int) (k : Int), vs = [.ref a, .int k] ∧ SqL K H a (ns.map V.int) ∧ 0 ≤ k ∧ RetV (.int (cellI ns k)) H Q
theorem ok_law_cell (T : TX K mg) : FnOk P w K mg base CX0 1 T.a_law_cell T.d_law_cell ["script", "k"] (sp_cell K) := by
  refine T.F_law_cell.ok sc_law_cell (fun vs H Q E h => by obtain ⟨a, ns, k, rfl, _⟩ := h; rfl) (fun cdv A outer s H vs Q E hr h => ?_)
  obtain ⟨a, ns, k, rfl, hS, hk, q⟩ := h
  refine ⟨_, (pss_cons (ps_if (pt_cmpR op_lt (pv 1) (pe_callB (r := rLenS K) call_len_seq (by rfl) T.m_len PySem.boot_len (pa_cons (pv 0) pa_nil)) (nomark _)) (pss_one (ps_ret (pe_ix (r := rIxL K) ix_list (pv 0) (pv 1) (fun _ _ => rfl)))) pss_nil)
      (pss_one (ps_ret pe_int))), ?_⟩
  have hl := (ev_lenS (K := K) (Ev.s (te := tVar 0) (σ := start ["script", "k"] [.ref a, .int k]) (ev_var rfl) hS))
  refine q_when (et_test (ev_I0 (ev_var rfl) hl)) ?_ ?_
  · intro hb H1 e1
    have hb : k < ns.length := by
      have := of_decide_eq_true hb
      rwa [List.length_map] at this
    refine s_ret (v := .int (cellI ns k)) (ev_ixS (i := 0) (n := k) (Ev.s (ev_var rfl) (ex_l e1 hS)) (ev_var rfl) ?_) fun H2 e2 => q H2 (e1.trans e2)
    exact at_of (j := k.toNat) (by omega) (at_int (cellI_in hk hb))
  · intro hb H1 e1
    have hb : ¬ k < ns.length := by
      have := of_decide_eq_false hb
      rwa [List.length_map] at this
    walk_at "ret"
    intro H2 e2
    exact ret_eq q (e1.trans e2) (by rw [cellI_out hb])
theorem ev_cell {σ : L2.St} {H : Hp} {ta tk : TE} {E : XK} {ns : List Int} {k : Int} {a : Addr} (ha : Ev ta σ H (.ref a)) (hS : SqL K H a (ns.map V.int)) (hk : Ev tk σ H (.int k)) (h0 : 0 ≤ k) : Ev (tCall (sp_cell K) [] E (tCons ta (tCons tk tNil))) σ H (.int (cellI ns k)) :=
  ev_call (ea_cons ha (ea_cons hk ea_nil)) fun H1 e Q q _ => ⟨a, ns, k, rfl, ex_l e hS, h0, q⟩
local macro_rules | `(tactic| walk_at "evown") => `(tactic| (refine' ev_cell ?h1 ?h2 ?h3 ?h4; (case h1 => exact ev_var rfl); (case h2 => walk_at "sq"); (case h3 => walk_at "ev"); (case h4 => walk_at "side")))

/-! ### objects: fields, methods, making -/
section
variable {K : PySem.W.Frag} {σ : L2.St} {H : Hp} {to te tv : TE} {a C : Addr} {dx : Addr} {fs : List (Str × V)} {f m : Str} {v : V} {D : Ends} {tz : TS} {sp : Sp} {dvs vs : List V} {E : XK} {t : TA}
theorem ev_fld (c : Cls K C) (hn : NoAttr K C f) (h : Ev to σ H (.ref a)) (hx : H a = some (.ins C dx fs)) (hl : fs.lookup f = some v) : Ev (tFld K to f) σ H v := fun H1 e Q q => h H1 e _ fun H2 e2 => ⟨a, C, dx, fs, v, rfl, (e.trans e2) _ _ hx, c, hn, hl, q H2 e2⟩
theorem q_fld (c : Cls K C) (hn : NoAttr K C f) (hv : Ev tv σ H v) (h : Ev to σ H (.ref a)) (hx : H a = some (.ins C dx fs)) (hl : fs.length < 1000) (k : ∀ H1, Ex H H1 → tz D σ (upd H1 a (.ins C dx (putF f v fs)))) : tSeq (sFld K to tv f) tz D σ H :=
  hv H (Ex.refl H) _ fun H1 e1 => h H1 e1 _ fun H2 e2 => ⟨a, C, dx, fs, rfl, (e1.trans e2) _ _ hx, c, hn, hl, k H2 (e1.trans e2)⟩
theorem s_fld (c : Cls K C) (hn : NoAttr K C f) (hv : Ev tv σ H v) (h : Ev to σ H (.ref a)) (hx : H a = some (.ins C dx fs)) (hl : fs.length < 1000) (k : ∀ H1, Ex H H1 → D.nx σ (upd H1 a (.ins C dx (putF f v fs)))) : sFld K to tv f D σ H :=
  hv H (Ex.refl H) _ fun H1 e1 => h H1 e1 _ fun H2 e2 => ⟨a, C, dx, fs, rfl, (e1.trans e2) _ _ hx, c, hn, hl, k H2 (e1.trans e2)⟩
theorem q_fldL {xs : List V} (c : Cls K C) (hn : NoAttr K C f) (hv : EvL tv σ H xs) (h : ∀ H1, Ex H H1 → Ev to σ H1 (.ref a)) (hx : H a = some (.ins C dx fs)) (hl : fs.length < 1000) (k : ∀ p H1, H p = none → Ex H H1 → H1 p = some (.lst xs) → tz D σ (upd H1 a (.ins C dx (putF f (.ref p) fs)))) : tSeq (sFld K to tv f) tz D σ H :=
  hv H (Ex.refl H) _ fun p H1 hp e1 g1 => h H1 e1 H1 (Ex.refl H1) _ fun H2 e2 => ⟨a, C, dx, fs, rfl, (e1.trans e2) _ _ hx, c, hn, hl, k p H2 hp (e1.trans e2) (e2 _ _ g1)⟩
/-- o.m(..), whatever m promises -/
theorem mth (h : Ev to σ H (.ref a)) (hx : H a = some (.ins C dx fs)) (hm : fs.lookup m = none) (ha : EvA t σ H vs) {Q : VK} (k : ∀ H1, Ex H H1 → sp (.ref a :: (vs ++ dvs)) H1 Q E) : tMeth C m sp dvs E to t σ H Q :=
  h H (Ex.refl H) _ fun H1 e1 => ⟨a, dx, fs, rfl, e1 _ _ hx, hm, ha H1 e1 _ fun H2 e2 => k H2 (e1.trans e2)⟩
theorem q_dropM (h : Ev to σ H (.ref a)) (hx : H a = some (.ins C dx fs)) (hm : fs.lookup m = none) (ha : EvA t σ H vs) (k : ∀ H1, Ex H H1 → sp (.ref a :: (vs ++ dvs)) H1 (fun _ H2 => tz D σ H2) E) : tSeq (tDrop (tMeth C m sp dvs E to t)) tz D σ H := mth h hx hm ha k
theorem s_dropM (h : Ev to σ H (.ref a)) (hx : H a = some (.ins C dx fs)) (hm : fs.lookup m = none) (ha : EvA t σ H vs) (k : ∀ H1, Ex H H1 → sp (.ref a :: (vs ++ dvs)) H1 (fun _ H2 => D.nx σ H2) E) : tDrop (tMeth C m sp dvs E to t) D σ H := mth h hx hm ha k
theorem q_asgM {i : Nat} (h : Ev to σ H (.ref a)) (hx : H a = some (.ins C dx fs)) (hm : fs.lookup m = none) (ha : EvA t σ H vs) (k : ∀ H1, Ex H H1 → sp (.ref a :: (vs ++ dvs)) H1 (fun x H2 => tz D (σ.set i (some x)) H2) E) : tSeq (tAsg (tMeth C m sp dvs E to t) (gName i)) tz D σ H := mth h hx hm ha k
theorem s_retM (h : Ev to σ H (.ref a)) (hx : H a = some (.ins C dx fs)) (hm : fs.lookup m = none) (ha : EvA t σ H vs) (k : ∀ H1, Ex H H1 → sp (.ref a :: (vs ++ dvs)) H1 D.rt E) : tRet (tMeth C m sp dvs E to t) D σ H := mth h hx hm ha k
/-- a method that changes nothing and gives a value -/
theorem ev_mth (h : Ev to σ H (.ref a)) (hx : H a = some (.ins C dx fs)) (hm : fs.lookup m = none) (ha : EvA t σ H vs) (k : SpV sp (.ref a :: (vs ++ dvs)) H v) : Ev (tMeth C m sp dvs E to t) σ H v := fun H1 e Q q =>
  h H1 e _ fun H2 e2 => ⟨a, dx, fs, rfl, (e.trans e2) _ _ hx, hm, ha H2 (e.trans e2) _ fun H3 e3 => k H3 ((e.trans e2).trans e3) Q (fun H4 e4 => q H4 ((e2.trans e3).trans e4)) E⟩
end
theorem fresh_ne {H : Hp} {p q : Addr} {o : HO} (hp : H p = none) (hq : H q = some o) : q ≠ p := ne_of_none hq hp
theorem bitNot_eq (x : Int) : Builtin.bitNot x = -x - 1 := rfl
theorem bitAnd_maskZ (x : Int) (k : Nat) : Builtin.bitAnd x (2 ^ k - 1) = x % 2 ^ k := by
  by_cases h : 0 ≤ x
  · exact _root_.Bits.bitAnd_mask k h
  · have hp : (1 : Int) ≤ 2 ^ k := by
      have : 0 < 2 ^ k := Nat.two_pow_pos k
      have h2 : ((2 : Int) ^ k) = ((2 ^ k : Nat) : Int) := by rw [Int.natCast_pow]; rfl
      omega
    rw [PyProof.Rows.bitAnd_np h (by omega), Nat.and_comm]
    have h2 : ((2 : Int) ^ k) = ((2 ^ k : Nat) : Int) := by rw [Int.natCast_pow]; rfl
    have h3 : ((2 : Int) ^ k - 1).toNat = 2 ^ k - 1 := by omega
    rw [h3, Nat.and_two_pow_sub_one_eq_mod, bitNot_eq]
    have h4 : ((-x - 1).toNat : Int) = -x - 1 := by omega
    rw [h2, Int.natCast_emod, h4]
    generalize 2 ^ k = m at *
    have hm : (0 : Int) < (m : Int) := by omega
    have e1 := Int.emod_add_mul_ediv x m
    have e2 := Int.emod_add_mul_ediv (-x - 1) m
    have a1 := Int.emod_nonneg x (by omega : (m : Int) ≠ 0)
    have a2 := Int.emod_lt_of_pos x hm
    have b1 := Int.emod_nonneg (-x - 1) (by omega : (m : Int) ≠ 0)
    have b2 := Int.emod_lt_of_pos (-x - 1) hm
    generalize x % (m : Int) = r at *
    generalize (-x - 1) % (m : Int) = s at *
    generalize x / (m : Int) = p at *
    generalize (-x - 1) / (m : Int) = q at *
    -- r + s + 1 is a multiple of m between 1 and 2m - 1
    have e3 : r + s + 1 = m * (-(p + q)) := by
      rw [Int.mul_neg, Int.mul_add]
      omega
    have h5 : -(p + q) = 1 := by
      have c1 : 0 < (m : Int) * (-(p + q)) := by omega
      have c2 : (m : Int) * (-(p + q)) < m * 2 := by omega
      have c3 := Int.pos_of_mul_pos_right (a := (m : Int)) (b := -(p + q)) (by exact c1) hm
      have c4 : -(p + q) < 2 := Int.lt_of_mul_lt_mul_left c2 (by omega)
      omega
    rw [h5, Int.mul_one] at e3
    omega
theorem q_fldaugI {K : PySem.W.Frag} {σ : L2.St} {H : Hp} {to tv : TE} {a C dx : Addr} {fs : List (Str × V)} {f : Str} {i j : Int} {D : Ends} {tz : TS} (c : Cls K C) (hn : NoAttr K C f) (h : Ev to σ H (.ref a)) (hx : H a = some (.ins C dx fs)) (hl : fs.lookup f = some (.int i)) (hv : Ev tv σ H (.int j)) (hz : fs.length < 1000)
    (k : ∀ H1, Ex H H1 → tz D σ (upd H1 a (.ins C dx (putF f (.int (i + j)) fs)))) : tSeq (sFldAug K to tv rAdd f) tz D σ H :=
  h H (Ex.refl H) _ fun H1 e1 => ⟨a, C, dx, fs, .int i, rfl, e1 _ _ hx, c, hn, hl, hv H1 e1 _ fun H2 e2 => ⟨i, j, rfl, rfl, dx, fs, (e1.trans e2) _ _ hx, hz, k H2 (e1.trans e2)⟩⟩
/-- [e for j in range(n)] whose element changes objects -/
theorem tlc_rngM {ta : TA} {te : TE} {vs : List Nat} {n : Int} {j : Nat} {σ : L2.St} {H : Hp} {Q : VK} (h : EvA ta σ H [.int n]) (hn : -100000 ≤ n ∧ n ≤ 100000)
    (k : ∀ H1, Ex H H1 → ∀ Dl, H1 Dl = none → ∃ Pv : Nat → Hp → Prop, Pv 0 (upd H1 Dl (.lst [])) ∧ (∀ (i : Nat) H', i < n.toNat → Pv i H' → wipe ((wipe σ vs).set j (some (.int (i : Int)))) vs = wipe σ vs ∧ te ((wipe σ vs).set j (some (.int (i : Int)))) H' fun y H4 => ∃ acc, H4 Dl = some (.lst acc) ∧ acc.length < sizeLine ∧ Pv (i + 1) (upd H4 Dl (.lst (acc ++ [y])))) ∧ (∀ H', Pv n.toNat H' → Q (.ref Dl) H')) :
    tLc (iRng1 ta) (gName j) tYes te vs σ H Q := h H (Ex.refl H) _ fun H1 e1 => ⟨n, rfl, by omega, by omega, fun Dl hD => by
  obtain ⟨Pv, h0, hs, hd⟩ := k H1 e1 Dl hD
  refine lc_range (lo := 0) (n := n.toNat) Pv h0 (fun i H' hi p => ?_) hd
  rw [Int.zero_add]
  exact hs i H' hi p⟩

def bits8 (b : Nat) : List Bool := (List.range 8).map fun k => b.testBit (7 - k)
/-! ### fields of bits -/
def bitsN (n v : Nat) : List Bool := (List.range n).map fun k => v.testBit (n - 1 - k)
theorem bitsN_len (n v : Nat) : (bitsN n v).length = n := by unfold bitsN; rw [List.length_map, List.length_range]
theorem bitsN_at {n v i : Nat} (h : i < n) : (bitsN n v)[i]? = some (v.testBit (n - 1 - i)) := by
  unfold bitsN
  rw [List.getElem?_map, List.getElem?_range h]
  rfl
theorem bitsN_congr {n v u : Nat} (h : ∀ i, i < n → v.testBit i = u.testBit i) : bitsN n v = bitsN n u := by
  unfold bitsN
  exact List.map_congr_left fun k hk => h _ (by have := List.mem_range.mp hk; omega)
theorem bitsN_mod (n v : Nat) : bitsN n (v % 2 ^ n) = bitsN n v := bitsN_congr fun i hi => by rw [Nat.testBit_mod_two_pow, decide_eq_true hi, Bool.true_and]
theorem bitsN_add (n w x : Nat) : bitsN (n + w) x = bitsN n (x / 2 ^ w) ++ bitsN w x := by
  refine List.ext_getElem? fun i => ?_
  by_cases h : i < n
  · rw [List.getElem?_append_left (by rw [bitsN_len]; exact h), bitsN_at h, bitsN_at (by omega), Nat.testBit_div_two_pow, show n - 1 - i + w = n + w - 1 - i by omega]
  · rw [List.getElem?_append_right (by rw [bitsN_len]; omega), bitsN_len]
    by_cases h2 : i - n < w
    · rw [bitsN_at h2, bitsN_at (by omega), show w - 1 - (i - n) = n + w - 1 - i by omega]
    · rw [List.getElem?_eq_none (by rw [bitsN_len]; omega), List.getElem?_eq_none (by rw [bitsN_len]; omega)]
theorem bitsN_cat {n w h v : Nat} (hv : v < 2 ^ w) : bitsN (n + w) (h * 2 ^ w + v) = bitsN n h ++ bitsN w v := by
  rw [bitsN_add]
  congr 1
  · rw [Nat.add_comm, Nat.add_mul_div_right _ _ (Nat.two_pow_pos w), Nat.div_eq_of_lt hv, Nat.zero_add]
  · rw [← bitsN_mod, Nat.add_comm, Nat.add_mul_mod_self_right, bitsN_mod]
theorem bits8_N (b : Nat) : bits8 b = bitsN 8 b := rfl
theorem bitsN_zero (n : Nat) : bitsN n 0 = List.replicate n false := by
  unfold bitsN
  refine List.ext_getElem? fun i => ?_
  rw [List.getElem?_map]
  by_cases h : i < n
  · rw [List.getElem?_range h, List.getElem?_replicate, if_pos h]
    show some (Nat.testBit 0 _) = _
    rw [Nat.zero_testBit]
  · rw [List.getElem?_eq_none (by rw [List.length_range]; omega), List.getElem?_eq_none (by rw [List.length_replicate]; omega)]
    rfl
theorem bits_flat_len (ws : List Nat) : (ws.flatMap bits8).length = 8 * ws.length := by
  induction ws with
  | nil => rfl
  | cons d r ih =>
    rw [List.flatMap_cons, List.length_append, ih, List.length_cons]
    show 8 + _ = _
    omega

/-! ### lists of bits, as numbers -/
def b2 (b : Bool) : Int := if b then 1 else 0
theorem b2_bit (n i : Nat) : Builtin.bitAnd ((n : Int) / 2 ^ i) 1 = b2 (n.testBit i) := by
  have h1 : ((n : Int) / 2 ^ i) = ((n / 2 ^ i : Nat) : Int) := by
    rw [Int.natCast_ediv, Int.natCast_pow]
    rfl
  rw [h1, PyProof.Rows.bitAnd_m1, Nat.testBit_eq_decide_div_mod_eq]
  unfold b2
  by_cases h : n / 2 ^ i % 2 = 1
  · rw [decide_eq_true h, if_pos rfl]
    omega
  · rw [decide_eq_false h, if_neg (by decide)]
    omega
def bI (ms : List Bool) : List Int := ms.map b2
theorem bI_len (ms : List Bool) : (bI ms).length = ms.length := List.length_map ..
theorem bI_append (ms ns : List Bool) : bI (ms ++ ns) = bI ms ++ bI ns := List.map_append ..
theorem bI_at {ms : List Bool} {i : Nat} {b : Bool} (h : ms[i]? = some b) : (bI ms)[i]? = some (b2 b) := by unfold bI; rw [List.getElem?_map, h]; rfl
theorem bI_false (n : Nat) : bI (List.replicate n false) = List.replicate n 0 := by unfold bI; rw [List.map_replicate]; rfl
theorem ev_bit {σ : L2.St} {H : Hp} {t1 t2 : TE} {n i : Nat} {j : Int} (h1 : Ev t1 σ H (.int (n : Int))) (h2 : Ev t2 σ H (.int j)) (hj : j = (i : Int)) : Ev (tOp (rI0 fun i j => .int (Builtin.bitAnd i j)) (tOp (rI (fun _ j => 0 ≤ j) fun i j => .int (i / 2 ^ j.toNat)) t1 t2) (tC (.int 1))) σ H (.int (b2 (n.testBit i))) := by
  subst hj
  exact Ev.is (ev_I0 (ev_I h1 h2 (by show (0 : Int) ≤ _; omega)) ev_c) (congrArg V.int (by rw [Int.toNat_natCast]; exact b2_bit n i))
def valL (ms : List Bool) : Nat := ms.foldl (fun a b => 2 * a + b.toNat) 0
theorem valL_snoc (ms : List Bool) (b : Bool) : valL (ms ++ [b]) = 2 * valL ms + b.toNat := by unfold valL; rw [List.foldl_append]; rfl
theorem valL_8 : ∀ d, d < 256 → valL (bits8 d) = d := by decide +kernel
def padN (n : Nat) : Nat := (8 - n % 8) % 8
theorem b2_nat (b : Bool) : b2 b = (b.toNat : Int) := by cases b <;> rfl
/-- _law_is_integer, _law_same -/
def sp_isint : Sp := fun vs H Q _ => ∃ n : Int, vs = [.int n] ∧ RetV (.bl true) H Q
theorem ok_law_is_integer (T : TX K mg) : FnOk P w K mg base CX0 1 T.a_law_is_integer T.d_law_is_integer ["actual"] sp_isint := by
  refine T.F_law_is_integer.ok sc_law_is_integer (fun vs H Q E h => by obtain ⟨n, rfl, _⟩ := h; rfl) (fun cdv A outer s H vs Q E hr h => ?_)
  obtain ⟨n, rfl, k⟩ := h
  refine ⟨_, (pss_one (ps_ret (pe_and (pe_callB (r := rIsi K) call_isi (by rfl) T.m_isinstance PyProof.Rows.boot_isinstance (pa_cons (pv 0) (pa_cons (pe_bltn (v := V.ty "int") (by rfl) T.m_int PyProof.Rows.boot_int rfl) pa_nil))) (pe_one (pe_not (pe_callB (r := rIsi K) call_isi (by rfl) T.m_isinstance PyProof.Rows.boot_isinstance (pa_cons (pv 0) (pa_cons (pe_bltn (v := V.ty "bool") (by rfl) T.m_bool PyProof.Rows.boot_bool rfl) pa_nil)))))))), ?_⟩
  walk_at "ret"
  intro H2 e2
  exact ret_eq k e2 rfl
theorem ev_isint {σ : L2.St} {H : Hp} {te : TE} {E : XK} {n : Int} (h : Ev te σ H (.int n)) : Ev (tCall sp_isint [] E (tCons te tNil)) σ H (.bl true) := ev_call (ea_cons h ea_nil) fun H1 _ Q q _ => ⟨n, rfl, q⟩

def sp_same : Sp := fun vs H Q _ => ∃ (a b : Addr) (ns : List Int), vs = [.ref a, .ref b] ∧ H a = some (.lst (ns.map V.int)) ∧ H b = some (.lst (ns.map V.int)) ∧ ns.length ≤ 100000 ∧ RetV (.bl true) H Q
theorem ok_law_same (T : TX K mg) : FnOk P w K mg base CX0 2 T.a_law_same T.d_law_same ["actual", "expected"] sp_same := by
  refine T.F_law_same.ok sc_law_same (fun vs H Q E h => by obtain ⟨a, b, ns, rfl, _⟩ := h; rfl) (fun cdv A outer s H vs Q E hr h => ?_)
  obtain ⟨a, b, ns, rfl, ha, hb, hlen, k⟩ := h
  refine ⟨_, (pss_cons (ps_if (PW.pt (pw_or (pt_not (pt_val (pe_callB (r := rIsi K) call_isi (by rfl) T.m_isinstance PyProof.Rows.boot_isinstance (pa_cons (pv 0) (pa_cons (pe_bltn (v := V.ty "list") (by rfl) T.m_list PyProof.Rows.boot_list rfl) pa_nil))))) (pw_or1 (pt_cmpR op_ne (pe_callB (r := rLenS K) call_len_seq (by rfl) T.m_len PySem.boot_len (pa_cons (pv 0) pa_nil)) (pe_callB (r := rLenS K) call_len_seq (by rfl) T.m_len PySem.boot_len (pa_cons (pv 1) pa_nil)) (nomark _))))) (pss_one (ps_ret pe_bl)) pss_nil)
      (pss_cons (ps_for PassesOwn.never rfl (pi_range1 (by rfl) T.m_range (pa_cons (pe_callB (r := rLenS K) call_len_seq (by rfl) T.m_len PySem.boot_len (pa_cons (pv 1) pa_nil)) pa_nil)) (pg_name (i := 2) sc_law_same.nd rfl (Or.inl rfl)) (pss_one (ps_if (PW.pt (pw_or (pt_not (pt_val (pe_call (ok_law_is_integer T) (hr.mono (by decide)) (by rfl) T.g_law_is_integer T.F_law_is_integer.kp T.b_law_is_integer .nil pass0 (pa_cons (pe_ix (r := rIxL K) ix_list (pv 0) (pv 2) (fun _ _ => rfl)) pa_nil)))) (pw_or1 (pt_cmpR op_ne (pe_ix (r := rIxL K) ix_list (pv 0) (pv 2) (fun _ _ => rfl)) (pe_ix (r := rIxL K) ix_list (pv 1) (pv 2) (fun _ _ => rfl)) (nomark _))))) (pss_one (ps_ret pe_bl)) pss_nil)))
      (pss_one (ps_ret pe_bl)))), ?_⟩
  have hl : ∀ {σ : L2.St} {H1 : Hp} {te : TE} {c : Addr}, Ev te σ H1 (.ref c) → H1 c = some (.lst (ns.map V.int)) → Ev (tCB (rLenS K) (tCons te tNil)) σ H1 (.int (ns.length : Int)) := fun h1 h2 => Ev.is (ev_lenS (Ev.s h1 (sq_of h2))) (by rw [List.length_map])
  refine q_when (b := false) (et_or (a := !true) (b := false) (et_not (et_test (ev_isiL (ev_var rfl) ha))) fun _ => et_test (Ev.is (ev_ne (hl (ev_var rfl) ha) (hl (ev_var rfl) hb) rfl) (by rw [decide_eq_true rfl]; rfl))) (fun hb => by cases hb) fun _ H1 e1 => ?_
  refine q_forR1 (n := (ns.length : Int)) (ea_cons (hl (ev_var rfl) (e1 _ _ hb)) ea_nil) (by omega) (fun i σ' H' => ∃ z, σ' = [some (.ref a), some (.ref b), z] ∧ Ex H H') (fun H2 e2 => ⟨none, rfl, e1.trans e2⟩) ?_ ?_
  · rintro i σ' H' hi ⟨z, rfl, ex⟩
    have hi : i < ns.length := by omega
    have hat : ∀ {σ : L2.St} {H1 : Hp} {tl ti : TE} {c : Addr}, Ev tl σ H1 (.ref c) → H1 c = some (.lst (ns.map V.int)) → Ev ti σ H1 (.int (i : Int)) → Ev (tOp (rIxL K) tl ti) σ H1 (.int (ns.getD i 0)) := fun h1 h2 h3 => ev_at (Ev.s h1 (sq_of h2)) h3 (at_of rfl (at_int (gl_get hi)))
    refine s_when (b := false) (et_or (a := !true) (b := false) (et_not (et_B (ev_isint (hat (ev_var rfl) (ex _ _ ha) (ev_var rfl))))) fun _ => et_test (Ev.is (ev_ne (hat (ev_var rfl) (ex _ _ ha) (ev_var rfl)) (hat (ev_var rfl) (ex _ _ hb) (ev_var rfl)) rfl) (by rw [decide_eq_true rfl]; rfl))) (fun hb => by cases hb) fun _ H2 e2 => ?_
    exact ⟨_, rfl, ex.trans e2⟩
  · rintro σ' H' ⟨z, rfl, ex⟩
    walk_at "ret"
    intro H2 e2
    exact k _ (ex.trans e2)

theorem pow_cast (k : Nat) : ((2 : Int) ^ k) = ((2 ^ k : Nat) : Int) := by rw [Int.natCast_pow]; rfl
/-! ### own errors, made and looked at -/
theorem kitOne_ref {D C : Addr} {b : Bool} {fI : Addr} {nm : Str} (x : ExK K C fI nm) (h : PySem.W.subIn K (.ref D) (.ref C) = some b) (hD : PySem.W.subIn K (.ref D) (.ref D) = some true) : PySem.W.kitOne K (.ref D) (.ref C) = some b := by
  unfold PySem.W.kitOne
  by_cases e : D = C
  · subst e
    rw [hD] at h
    rw [if_pos (beq_self_eq_true _), ← h]
  · rw [if_neg (fun z => e (Value.ref.inj (beq_iff_eq.mp z)))]
    obtain ⟨cd, hc, _⟩ := PySem.W.any_some x.ex.hd
    show (if ((PySem.W.clsIn K C).isSome && PySem.W.typeIn K (.ref C) == some (.type "type")) = true then PySem.W.subIn K (.ref D) (.ref C) else none) = some b
    rw [if_pos (by rw [hc, x.tyC] <;> rfl), h]
theorem kitOne_VE {D : Addr} (h : PySem.W.subIn K (.ref D) (.type "ValueError") = some true) : PySem.W.kitOne K (.ref D) (.type "ValueError") = some true := by
  unfold PySem.W.kitOne
  rw [if_neg (fun z => by cases beq_iff_eq.mp z)]
  show (if PySem.W.kitMeta "ValueError" = true then PySem.W.subIn K (.ref D) (.type "ValueError") else none) = some true
  rw [if_pos (by decide +kernel), h]
theorem exm_su {D C : Addr} {b : Bool} {fI : Addr} {nm : Str} (x : ExK K C fI nm) (h : PySem.W.subIn K (.ref D) (.ref C) = some b) : PySem.W.exmOne K (.ref D) (.ref C) = some b := PySem.W.exm_ref x.ex.hs x.ex.hd x.tyC h
theorem ok_MonochordError_init (T : TX K mg) : FnOk P w K mg base CX0 1 T.a_MonochordError_init T.d_MonochordError_init ["self", "place"] (sp_einit K) := by
  refine T.F_MonochordError_init.ok sc_MonochordError_init (fun vs H Q E h => by obtain ⟨a, C, fI, nm, n, rfl, _⟩ := h; rfl) (fun cdv A outer s H vs Q E hr h => ?_)
  obtain ⟨a, C, fI, nm, n, rfl, T1, ha, k⟩ := h
  refine ⟨_, (pss_cons (ps_ost (pv 0) (pv 1))
      (pss_one (ps_ost (pv 0) (pe_clsname (pv 0))))), ?_⟩
  refine ⟨.int n, rfl, .ref a, rfl, a, C, rfl, T1.ox, T1.nP, .inl ⟨ha, fun dx hdx ne => ?_⟩⟩
  have h2 : upd (upd H dx (exd dx [("place", .int n)])) a (exo a C (some dx)) dx = some (exd dx [("place", .int n)]) := by rw [upd_ne ne]; exact upd_same
  refine ⟨.ref a, rfl, a, C, dx, [("place", .int n)], fI, nm, rfl, T1, upd_same, h2, .ref a, rfl, a, C, rfl, T1.ox, T1.nN, .inr ⟨dx, [("place", .int n)], upd_same, h2, Nat.le_of_ble_eq_true rfl, ?_⟩⟩
  refine k dx _ hdx ne (fun b o nb hb => ?_) ?_ upd_same
  · have nd : b ≠ dx := fun z => by rw [z, hdx] at hb; cases hb
    rw [upd_ne nd, upd_ne nb, upd_ne nd]
    exact hb
  · rw [upd_ne ne.symm]
    exact upd_same
/-- isinstance(error, c), error.f in the suite that holds it -/
theorem ev_isA {σ : L2.St} {H : Hp} {te : TE} {a C C2 dd : Addr} {cls : Value} {d : Option Addr} {fs : List (Str × V)} {b : Bool} (ha : Ev te σ H (.ref a)) (hc : cls = .ref C) (T : ExcC K C) (hd : d = some dd) (hx : H dd = some (.xd fs)) (hk : PySem.W.kitOne K (.ref C) (.ref C2) = some b) :
    Ev (tCB (rIsA K cls d a) (tCons te (tCons (tC (.ref C2)) tNil))) σ H (.bl b) := fun H1 e Q q =>
  ha H1 e _ fun H2 e2 => ⟨C, .ref C2, .ref C2, b, dd, fs, hc, T, hd, (e.trans e2) _ _ hx, rfl, fun u r => r, hk, q H2 e2⟩
theorem ev_isVE {σ : L2.St} {H : Hp} {te : TE} {a C dd : Addr} {cls : Value} {d : Option Addr} {fs : List (Str × V)} {b : Bool} (ha : Ev te σ H (.ref a)) (hc : cls = .ref C) (T : ExcC K C) (hd : d = some dd) (hx : H dd = some (.xd fs)) (hk : PySem.W.kitOne K (.ref C) (.type "ValueError") = some b) :
    Ev (tCB (rIsA K cls d a) (tCons te (tCons (tC (.ty "ValueError")) tNil))) σ H (.bl b) := fun H1 e Q q =>
  ha H1 e _ fun H2 e2 => ⟨C, .ty "ValueError", .type "ValueError", b, dd, fs, hc, T, hd, (e.trans e2) _ _ hx, rfl, fun u r => r, hk, q H2 e2⟩
theorem ev_xfA {σ : L2.St} {H : Hp} {te : TE} {a C dd : Addr} {cls : Value} {d : Option Addr} {f : Str} {fs : List (Str × V)} {v : V} (ha : Ev te σ H (.ref a)) (hc : cls = .ref C) (T : XfC K C) (hn : PySem.W.findIn K (.ref C) f = some none) (hd : d = some dd) (hx : H dd = some (.xd fs)) (hl : fs.lookup f = some v) :
    Ev (tXfA K a cls d f te) σ H v := fun H1 e Q q => ha H1 e _ fun H2 e2 => ⟨rfl, C, hc, T, hn, dd, fs, v, hd, (e.trans e2) _ _ hx, hl, q H2 e2⟩
/-! o.m(..) that may let an error out -/
section
variable {σ : L2.St} {H : Hp} {to : TE} {a C dx : Addr} {fs : List (Str × V)} {m : Str} {D : Ends} {tz : TS} {sp : Sp} {dvs vs : List V} {E : L2.St → XK} {t : TA} {v : V}
theorem mthX (h : Ev to σ H (.ref a)) (hx : H a = some (.ins C dx fs)) (hm : fs.lookup m = none) (ha : EvA t σ H vs) {Q : VK} (k : ∀ H1, Ex H H1 → sp (.ref a :: (vs ++ dvs)) H1 Q (E σ)) : tMethX C m sp dvs E to t σ H Q :=
  h H (Ex.refl H) _ fun H1 e1 => ⟨a, dx, fs, rfl, e1 _ _ hx, hm, ha H1 e1 _ fun H2 e2 => k H2 (e1.trans e2)⟩
theorem q_asgMX {i : Nat} (h : Ev to σ H (.ref a)) (hx : H a = some (.ins C dx fs)) (hm : fs.lookup m = none) (ha : EvA t σ H vs) (k : ∀ H1, Ex H H1 → sp (.ref a :: (vs ++ dvs)) H1 (fun x H2 => tz D (σ.set i (some x)) H2) (E σ)) : tSeq (tAsg (tMethX C m sp dvs E to t) (gName i)) tz D σ H := mthX h hx hm ha k
theorem s_retMX (h : Ev to σ H (.ref a)) (hx : H a = some (.ins C dx fs)) (hm : fs.lookup m = none) (ha : EvA t σ H vs) (k : ∀ H1, Ex H H1 → sp (.ref a :: (vs ++ dvs)) H1 D.rt (E σ)) : tRet (tMethX C m sp dvs E to t) D σ H := mthX h hx hm ha k
theorem q_asgCX {i : Nat} (h : EvA t σ H vs) (k : ∀ H1, Ex H H1 → sp (vs ++ dvs) H1 (fun x H2 => tz D (σ.set i (some x)) H2) (E σ)) : tSeq (tAsg (tCallX sp dvs E t) (gName i)) tz D σ H := h H (Ex.refl H) _ fun H1 e => k H1 e
theorem s_retCX (h : EvA t σ H vs) (k : ∀ H1, Ex H H1 → sp (vs ++ dvs) H1 D.rt (E σ)) : tRet (tCallX sp dvs E t) D σ H := h H (Ex.refl H) _ fun H1 e => k H1 e
end

/-! ### BitReader -/
theorem flat_drop : ∀ (ds : List Nat) (a : Nat), (ds.flatMap bits8).drop (8 * a) = (ds.drop a).flatMap bits8
  | [], a => by rw [List.flatMap_nil, List.drop_nil, List.drop_nil, List.flatMap_nil]
  | d :: r, 0 => rfl
  | d :: r, a + 1 => by
    rw [List.flatMap_cons, show 8 * (a + 1) = (bits8 d).length + 8 * a by show _ = 8 + 8 * a; omega, List.drop_append, List.drop_of_length_le (by omega), List.nil_append, show (bits8 d).length + 8 * a - (bits8 d).length = 8 * a by omega]
    exact flat_drop r a
theorem flat_take : ∀ (ds : List Nat) (m : Nat), (ds.flatMap bits8).take (8 * m) = (ds.take m).flatMap bits8
  | [], m => by rw [List.flatMap_nil, List.take_nil, List.take_nil, List.flatMap_nil]
  | d :: r, 0 => rfl
  | d :: r, m + 1 => by
    rw [List.flatMap_cons, show 8 * (m + 1) = (bits8 d).length + 8 * m by show _ = 8 + 8 * m; omega, List.take_append, List.take_of_length_le (by omega), show (bits8 d).length + 8 * m - (bits8 d).length = 8 * m by omega, flat_take r m]
    rfl
def numB (bs : List Nat) : Nat := bs.foldl (fun a b => a * 2 ^ 8 + b) 0
theorem numB_snoc (bs : List Nat) (b : Nat) : numB (bs ++ [b]) = numB bs * 2 ^ 8 + b := by unfold numB; rw [List.foldl_append]; rfl
theorem numB_bits (bs : List Nat) (h : ∀ b ∈ bs, b < 256) : ∀ k, k ≤ bs.length → bitsN (8 * k) (numB (bs.take k)) = (bs.take k).flatMap bits8 ∧ numB (bs.take k) < 2 ^ (8 * k)
  | 0, _ => ⟨rfl, by rw [List.take_zero]; decide⟩
  | k + 1, hk => by
    obtain ⟨h1, h2⟩ := numB_bits bs h k (by omega)
    have hb : bs[k]? = some bs[k] := List.getElem?_eq_getElem (by omega)
    have hlt : bs[k] < 2 ^ 8 := h _ (List.getElem_mem (by omega))
    rw [show bs.take (k + 1) = bs.take k ++ [bs[k]] from by rw [List.take_add_one, hb]; rfl, numB_snoc, show 8 * (k + 1) = 8 * k + 8 by omega, bitsN_cat hlt, h1, List.flatMap_append, List.flatMap_cons, List.flatMap_nil, List.append_nil]
    refine ⟨rfl, ?_⟩
    rw [Nat.pow_add]
    have : (numB (bs.take k) + 1) * 2 ^ 8 ≤ 2 ^ (8 * k) * 2 ^ 8 := Nat.mul_le_mul_right _ h2
    rw [Nat.add_mul, Nat.one_mul] at this
    omega
theorem valL_bitsN : ∀ (w v : Nat), valL (bitsN w v) = v % 2 ^ w
  | 0, v => by rw [Nat.pow_zero, Nat.mod_one]; rfl
  | w + 1, v => by
    rw [bitsN_add w 1 v]
    show valL (bitsN w (v / 2 ^ 1) ++ [v.testBit 0]) = _
    have e : v % 2 ^ (w + 1) = v % 2 + 2 * (v / 2 % 2 ^ w) := by rw [Nat.pow_succ, Nat.mul_comm, Nat.mod_mul]
    rw [valL_snoc, valL_bitsN w (v / 2 ^ 1), Nat.pow_one, e, Nat.testBit_zero]
    have := Nat.mod_two_eq_zero_or_one v
    rcases this with h | h
    · rw [h]
      show _ + 0 = _
      omega
    · rw [h]
      show _ + 1 = _
      omega
theorem slice_bits {ds : List Nat} (hd : ∀ d ∈ ds, d < 256) {pos w : Nat} (h : pos + w ≤ 8 * ds.length) : valL (((ds.flatMap bits8).drop pos).take w) = numB ((ds.drop (pos / 8)).take ((pos + w + 7) / 8 - pos / 8)) / 2 ^ (8 * ((pos + w + 7) / 8) - (pos + w)) % 2 ^ w := by
  generalize hm : (pos + w + 7) / 8 - pos / 8 = m
  generalize hk : 8 * ((pos + w + 7) / 8) - (pos + w) = k
  have hsl : ((ds.drop (pos / 8)).take m).length = m := by rw [List.length_take, List.length_drop]; omega
  have hb := (numB_bits ((ds.drop (pos / 8)).take m) (fun b hb => hd b (List.mem_of_mem_drop (List.mem_of_mem_take hb))) m (by omega)).1
  rw [List.take_of_length_le (by omega)] at hb
  rw [← flat_take, ← flat_drop] at hb
  generalize numB ((ds.drop (pos / 8)).take m) = x at *
  have h8 : 8 * m = pos % 8 + (w + k) := by omega
  have hdrop : ((ds.flatMap bits8).drop pos).take w = ((((ds.flatMap bits8).drop (8 * (pos / 8))).take (8 * m)).drop (pos % 8)).take w := by
    rw [List.drop_take, List.take_take, List.drop_drop, show 8 * (pos / 8) + pos % 8 = pos by omega, Nat.min_eq_left (by omega)]
  rw [hdrop, ← hb, h8, bitsN_add, bitsN_add, List.drop_left' (bitsN_len _ _), List.take_left' (bitsN_len _ _), valL_bitsN]
def rF (d : Addr) (pos : Nat) : List (Str × V) := [("_data", .ref d), ("_position", .int (pos : Int))]
def RdAt (C : Addr) (H : Hp) (a d : Addr) (pos : Nat) : Prop := ∃ dx, H a = some (.ins C dx (rF d pos))
def FrA (a : Addr) (H H' : Hp) : Prop := ∀ b o, b ≠ a → H b = some o → H' b = some o
theorem FrA.ex {a : Addr} {H H1 : Hp} (h : Ex H H1) : FrA a H H1 := fun b o _ e => h b o e
theorem FrA.trans {a : Addr} {H H1 H2 : Hp} (h : FrA a H H1) (g : FrA a H1 H2) : FrA a H H2 := fun b o n e => g b o n (h b o n e)
theorem FrA.upd {a : Addr} {H H1 : Hp} {o : HO} (h : FrA a H H1) : FrA a H (upd H1 a o) := fun b p n e => by rw [upd_ne n]; exact h b p n e
theorem RdAt.ex {C a d : Addr} {H H1 : Hp} {pos : Nat} (e : Ex H H1) (h : RdAt C H a d pos) : RdAt C H1 a d pos := by
  obtain ⟨dx, h⟩ := h
  exact ⟨dx, e _ _ h⟩
theorem RdAt.ne {C a d : Addr} {H : Hp} {pos : Nat} {p : Addr} {xs : List V} (h : RdAt C H a d pos) (hp : H p = some (.lst xs)) : p ≠ a := by
  obtain ⟨dx, h⟩ := h
  intro e
  rw [e, h] at hp
  cases hp
def sp_rinit (C : Addr) : Sp := fun vs H Q _ => ∃ (a dx d : Addr) (at_ : Nat), vs = [.ref a, .ref d, .int (at_ : Int)] ∧ H a = some (.ins C dx []) ∧ at_ ≤ 1000000 ∧ ∀ H', FrA a H H' → RdAt C H' a d (8 * at_) → Q .non H'
theorem ok_BitReader_init (T : TX K mg) : FnOk P w K mg base CX0 1 T.a_BitReader_init T.d_BitReader_init ["self", "data", "at"] (sp_rinit T.C_BitReader) := by
  refine T.F_BitReader_init.ok sc_BitReader_init (fun vs H Q E h => by obtain ⟨a, dx, d, t, rfl, _⟩ := h; rfl) (fun cdv A outer s H vs Q E hr h => ?_)
  obtain ⟨a, dx, d, t, rfl, ha, ht, k⟩ := h
  refine ⟨_, PSs.nox (pss_cons (ps_fld (pv 0) (pv 1) rfl)
      (pss_one (ps_fld (pv 0) (pe_op op_mul (pv 2) pe_int) rfl))), ?_⟩
  refine q_fld T.cl_BitReader T.n_BitReader_data (v := .ref d) (ev_var rfl) (ev_var rfl) ha (by decide) fun H1 e1 => ?_
  refine s_fld T.cl_BitReader T.n_BitReader_position (v := .int ((8 * t : Nat) : Int)) (Ev.is (ev_I (ev_var rfl) ev_c (.inr (by decide))) (congrArg V.int (by omega))) (ev_var rfl) upd_same (Nat.le_of_ble_eq_true rfl) fun H2 e2 => ?_
  exact k _ ((FrA.ex e1).upd.trans (FrA.ex e2)).upd ⟨dx, upd_same⟩

def sp_place (C : Addr) (f : Nat → Int) : Sp := fun vs H Q _ => ∃ (a d : Addr) (pos : Nat), vs = [.ref a] ∧ RdAt C H a d pos ∧ RetV (.int (f pos)) H Q
theorem ok_BitReader_byte_place (T : TX K mg) : FnOk P w K mg base CX0 1 T.a_BitReader_byte_place T.d_BitReader_byte_place ["self"] (sp_place T.C_BitReader fun pos => (pos / 8 : Nat)) := by
  refine T.F_BitReader_byte_place.ok sc_BitReader_byte_place (fun vs H Q E h => by obtain ⟨a, d, pos, rfl, _⟩ := h; rfl) (fun cdv A outer s H vs Q E hr h => ?_)
  obtain ⟨a, d, pos, rfl, ⟨dx, ha⟩, k⟩ := h
  refine ⟨_, (pss_one (ps_ret (pe_op op_fdiv (pe_fld (pv 0) rfl) pe_int))), ?_⟩
  exact s_ret (Ev.is (ev_I (ev_fld T.cl_BitReader T.n_BitReader_position (v := .int (pos : Int)) (ev_var rfl) ha rfl) ev_c ⟨by decide, by decide⟩) (congrArg V.int (by show _ = ((pos / 8 : Nat) : Int); omega))) fun H1 e1 => k H1 e1
theorem ok_BitReader_bit_place (T : TX K mg) : FnOk P w K mg base CX0 1 T.a_BitReader_bit_place T.d_BitReader_bit_place ["self"] (sp_place T.C_BitReader fun pos => (pos : Nat)) := by
  refine T.F_BitReader_bit_place.ok sc_BitReader_bit_place (fun vs H Q E h => by obtain ⟨a, d, pos, rfl, _⟩ := h; rfl) (fun cdv A outer s H vs Q E hr h => ?_)
  obtain ⟨a, d, pos, rfl, ⟨dx, ha⟩, k⟩ := h
  refine ⟨_, (pss_one (ps_ret (pe_fld (pv 0) rfl))), ?_⟩
  exact s_ret (ev_fld T.cl_BitReader T.n_BitReader_position (v := .int (pos : Int)) (ev_var rfl) ha rfl) fun H1 e1 => k H1 e1
theorem ev_place {σ : L2.St} {H : Hp} {to : TE} {E : XK} {C a d : Addr} {pos : Nat} {m : Str} {f : Nat → Int} (h : Ev to σ H (.ref a)) (hR : RdAt C H a d pos) (hm : (rF d pos).lookup m = none) : Ev (tMeth C m (sp_place C f) [] E to tNil) σ H (.int (f pos)) := by
  obtain ⟨dx, ha⟩ := id hR
  exact ev_mth h ha hm ea_nil fun H1 e Q q _ => ⟨a, d, pos, rfl, hR.ex e, q⟩

def RdErr (E : XK) (C : Addr) (nm : Str) (n : Nat) (H : Hp) : Prop := ∀ H' dd, Ex H H' → ErrD H' dd nm (n : Int) → E (.ref C) (some dd) H'
def sp_readX (C CT : Addr) : Sp := fun vs H Q E => ∃ (a d : Addr) (ds : List Nat) (pos wd : Nat), vs = [.ref a, .int (wd : Int)] ∧ RdAt C H a d pos ∧ H d = some (.lst ((cs ds).map V.int)) ∧ (∀ b ∈ ds, b < 256) ∧ wd ≤ 64 ∧ ds.length ≤ 100000 ∧
  (pos + wd ≤ 8 * ds.length → ∀ H', FrA a H H' → RdAt C H' a d (pos + wd) → Q (.int ((valL (((ds.flatMap bits8).drop pos).take wd) : Nat) : Int)) H') ∧ (8 * ds.length < pos + wd → RdErr E CT "Truncated" ds.length H)
theorem q_forSr {σ : L2.St} {H : Hp} {D : Ends} {tu tz : TS} {tl : TE} {g : TG} {xs : List V} (h : EvS K tl σ H xs) (k : ∀ p H1, Ex H H1 → SqL K H1 p xs → tSeq (tFor (iList K (tC (.ref p))) g tu) tz D σ H1) : tSeq (tFor (iList K tl) g tu) tz D σ H := h H (Ex.refl H) _ fun p H1 e hp => k p H1 e hp
theorem ok_BitReader_read (T : TX K mg) : FnOk P w K mg base (L2.CX P w) 3 T.a_BitReader_read T.d_BitReader_read ["self", "width"] (sp_readX T.C_BitReader T.C_Truncated) := by
  refine T.F_BitReader_read.okX sc_BitReader_read (fun vs H Q E h => by obtain ⟨a, d, ds, pos, wd, rfl, _⟩ := h; rfl) (fun cdv A outer s H vs Q E hr h => ?_)
  obtain ⟨a, d, ds, pos, wd, rfl, ⟨dx, ha⟩, hd, hds, hw, hlen, k, kE⟩ := h
  refine ⟨_, (pss_cons (ps_set (i := 2) sc_BitReader_read.nd rfl (Or.inl rfl) (pe_fld (pv 0) rfl))
      (pss_cons (ps_set (i := 3) sc_BitReader_read.nd rfl (Or.inl rfl) (pe_fld (pv 0) rfl))
      (pss_cons (ps_set (i := 4) sc_BitReader_read.nd rfl (Or.inl rfl) (pe_op op_add (pv 3) (pv 1)))
      (pss_cons (ps_if (pt_cmpR op_gt (pv 4) (pe_op op_mul (pe_callB (r := rLenS K) call_len_seq (by rfl) T.m_len PySem.boot_len (pa_cons (pv 2) pa_nil)) pe_int) (nomark _)) (pss_one (ps_raise rfl (takes_of rfl rfl rfl rfl) (pmk_oex T.x_Truncated.ox T.x_Truncated.iC T.ti_MonochordError_init (ok_MonochordError_init T) (hr.mono (by decide)) T.b_MonochordError_init .nil pass0 (by rfl) T.g_Truncated (pa_cons (pe_callB (r := rLenS K) call_len_seq (by rfl) T.m_len PySem.boot_len (pa_cons (pv 2) pa_nil)) pa_nil)))) pss_nil)
      (pss_cons (ps_set (i := 5) sc_BitReader_read.nd rfl (Or.inl rfl) (pe_op op_fdiv (pe_op op_add (pv 4) pe_int) pe_int))
      (pss_cons (ps_set (i := 6) sc_BitReader_read.nd rfl (Or.inl rfl) pe_int)
      (pss_cons (ps_for (passes_of rfl) rfl (pi_list (pe_slice (r := rSlL K) sl_list (pv 2) (po_some (pe_op op_fdiv (pv 3) pe_int)) (po_some (pv 5)))) (pg_name (i := 7) sc_BitReader_read.nd rfl (Or.inl rfl)) (pss_one (ps_set (i := 6) sc_BitReader_read.nd rfl (Or.inl rfl) (pe_op op_or (pe_op op_shl (pv 6) pe_int) (pv 7)))))
      (pss_cons (ps_fld (pv 0) (pv 4) rfl)
      (pss_one (ps_ret (pe_op op_and (pe_op op_shr (pv 6) (pe_op op_sub (pe_op op_mul (pv 5) pe_int) (pv 4))) (pe_op op_sub (pe_op op_shl pe_int (pv 1)) pe_int)))))))))))), ?_⟩
  refine q_asg (ev_fld T.cl_BitReader T.n_BitReader_data (v := .ref d) (ev_var rfl) ha rfl) fun H1 e1 => ?_
  refine q_asg (ev_fld T.cl_BitReader T.n_BitReader_position (v := .int (pos : Int)) (ev_var rfl) (e1 _ _ ha) rfl) fun H2 e2 => ?_
  refine q_asg (v := .int ((pos + wd : Nat) : Int)) (Ev.is (ev_I0 (ev_var rfl) (ev_var rfl)) (congrArg V.int (by omega))) fun H3 e3 => ?_
  have ex3 := (e1.trans e2).trans e3
  have hlv : ∀ {H1 : Hp}, Ex H H1 → Ev (tCB (rLenS K) (tCons (tVar 2) tNil)) [some (.ref a), some (.int (wd : Int)), some (.ref d), some (.int (pos : Int)), some (.int ((pos + wd : Nat) : Int)), none, none, none] H1 (.int (ds.length : Int)) := fun e => Ev.is (ev_lenS (Ev.s (ev_var rfl) (sq_of (e _ _ hd)))) (by rw [List.length_map, cs_len])
  refine q_when (b := decide (8 * ds.length < pos + wd)) (et_test (Ev.is (ev_I0 (ev_var rfl) (ev_I (hlv ex3) ev_c (.inr (by decide)))) (congrArg V.bl (decide_eq_decide.mpr (by show (_ : Int) < _ ↔ _; omega))))) (fun hb H4 e4 => ?_) (fun hb H4 e4 => ?_)
  · exact mk_err T.x_Truncated (ea_cons (hlv (ex3.trans e4)) ea_nil) fun H5 dd hdd e5 he => kE (of_decide_eq_true hb) H5 dd ((ex3.trans e4).trans e5) he
  have hp : pos + wd ≤ 8 * ds.length := by have := of_decide_eq_false hb; omega
  have k := k hp
  refine q_asg (v := .int (((pos + wd + 7) / 8 : Nat) : Int)) (Ev.is (ev_I (ev_I0 (ev_var rfl) ev_c) ev_c ⟨by decide, by decide⟩) (congrArg V.int (by omega))) fun H5 e5 => ?_
  walk_at "asg"
  intro H6 e6
  have ex6 := ((ex3.trans e4).trans e5).trans e6
  have hsb := slice_bits hds hp
  generalize hbs : (ds.drop (pos / 8)).take ((pos + wd + 7) / 8 - pos / 8) = bs at *
  have hbl : bs.length ≤ 9 := by rw [← hbs, List.length_take]; omega
  have hb256 : ∀ b ∈ bs, b < 256 := fun b hb => hds b (by rw [← hbs] at hb; exact List.mem_of_mem_drop (List.mem_of_mem_take hb))
  refine q_forSr (xs := (cs bs).map V.int) (EvR.s (EvL.r (EvL.is (el_mid (ns := cs ds) (i := pos / 8) (j := (pos + wd + 7) / 8) (Ev.s (ev_var rfl) (sq_of (ex6 _ _ hd))) (Ev.is (ev_I (ev_var rfl) ev_c ⟨by decide, by decide⟩) (congrArg V.int (by omega))) (ev_var rfl)) (by rw [cs_drop, cs_take, hbs])))) fun p H7 e7 hq => ?_
  refine q_forLn (a := p) ev_c hq (fun i σ' H' => ∃ c, σ' = [some (.ref a), some (.int (wd : Int)), some (.ref d), some (.int (pos : Int)), some (.int ((pos + wd : Nat) : Int)), some (.int (((pos + wd + 7) / 8 : Nat) : Int)), some (.int ((numB (bs.take i) : Nat) : Int)), c] ∧ Ex H7 H')
    (fun H8 e8 => ⟨none, rfl, e8⟩) (fun i σ' H' _ h => by obtain ⟨_, _, e⟩ := h; exact ex_l e hq) ?_ ?_
  · rintro i x σ' H8 hx ⟨c, rfl, e8⟩
    obtain ⟨n, hn, hi, rfl⟩ := int_at hx
    rw [cs_len] at hi
    have hbi : bs[i]? = some bs[i] := List.getElem?_eq_getElem hi
    have hn2 := cs_at hbi
    rw [hn] at hn2
    have hn2 := Option.some.inj hn2
    have hlt : bs[i] < 256 := hb256 _ (List.getElem_mem hi)
    have hx64 := (numB_bits bs hb256 i (by omega)).2
    rw [show bs.take (i + 1) = bs.take i ++ [bs[i]] from by rw [List.take_add_one, hbi]; rfl, numB_snoc]
    generalize bs[i] = b at *
    subst hn2
    have hx64 : numB (bs.take i) < 2 ^ 64 := Nat.lt_of_lt_of_le hx64 (Nat.pow_le_pow_right (by decide) (by omega))
    generalize numB (bs.take i) = x at *
    refine s_asg (Ev.is (ev_I0 (ev_I (ev_var rfl) ev_c (show CPow (x : Int) 8 from ⟨by decide, by decide, by rw [Int.natAbs_natCast]; exact hx64⟩)) (ev_var rfl)) (congrArg V.int (a₂ := ((x * 2 ^ 8 + b : Nat) : Int)) ?_)) fun H9 e9 => ⟨_, rfl, e8.trans e9⟩
    show Builtin.bitOr ((x : Int) * 2 ^ 8) (b : Int) = _
    rw [_root_.Bits.bitOr_join' (by omega) (by show (b : Int) < 256; omega) (by omega)]
    show (b : Int) + (x : Int) * 256 = ((x * 256 + b : Nat) : Int)
    omega
  · rintro σ' H8 ⟨c, rfl, e8⟩
    rw [List.length_map, cs_len, List.take_length]
    have ex8 := (ex6.trans e7).trans e8
    refine q_fld T.cl_BitReader T.n_BitReader_position (v := .int ((pos + wd : Nat) : Int)) (ev_var rfl) (ev_var rfl) (ex8 _ _ ha) (Nat.le_of_ble_eq_true rfl) fun H9 e9 => ?_
    refine s_ret (v := .int ((valL (((ds.flatMap bits8).drop pos).take wd) : Nat) : Int)) (Ev.is (ev_I0 (ev_I (j := ((8 * ((pos + wd + 7) / 8) - (pos + wd) : Nat) : Int)) (ev_var rfl) (Ev.is (ev_I0 (ev_I (ev_var rfl) ev_c (.inr (by decide))) (ev_var rfl)) (congrArg V.int (by omega))) (by show (0 : Int) ≤ _; omega)) (ev_I0 (ev_I ev_c (ev_var rfl) (show CPow 1 (wd : Int) from ⟨by omega, by omega, by decide⟩)) ev_c)) (congrArg V.int ?_)) fun H10 e10 => ?_
    · rw [Int.toNat_natCast, Int.toNat_natCast, Int.one_mul, bitAnd_maskZ, pow_cast, pow_cast, hsb, Int.natCast_emod, Int.natCast_ediv]
    · exact k H10 (((FrA.ex ex8).trans (FrA.ex e9)).upd.trans (FrA.ex e10)) (RdAt.ex e10 ⟨dx, upd_same⟩)

def sp_alig (C : Addr) : Sp := fun vs H Q _ => ∃ (a d : Addr) (pos : Nat), vs = [.ref a] ∧ RdAt C H a d pos ∧ RetV (.bl (decide (pos % 8 = 0))) H Q
/-- o.m() of a reader, nothing changed -/
theorem ok_BitReader_aligned (T : TX K mg) : FnOk P w K mg base CX0 1 T.a_BitReader_aligned T.d_BitReader_aligned ["self"] (sp_alig T.C_BitReader) := by
  refine T.F_BitReader_aligned.ok sc_BitReader_aligned (fun vs H Q E h => by obtain ⟨a, d, pos, rfl, _⟩ := h; rfl) (fun cdv A outer s H vs Q E hr h => ?_)
  obtain ⟨a, d, pos, rfl, ⟨dx, ha⟩, k⟩ := h
  refine ⟨_, (pss_one (ps_ret (pe_cmpR op_eq (pe_op op_mod (pe_fld (pv 0) rfl) pe_int) pe_int (nomark _)))), ?_⟩
  exact s_ret (v := .bl (decide (pos % 8 = 0))) (Ev.is (ev_eq (ev_I (ev_fld T.cl_BitReader T.n_BitReader_position (v := .int (pos : Int)) (ev_var rfl) ha rfl) ev_c (by decide)) ev_c rfl) (congrArg V.bl (decide_eq_decide.mpr ⟨fun h => by have := V.int.inj h; omega, fun h => congrArg V.int (by omega)⟩))) fun H1 e1 => k H1 e1
theorem ev_aligned {σ : L2.St} {H : Hp} {to : TE} {E : XK} {C a d : Addr} {pos : Nat} (h : Ev to σ H (.ref a)) (hR : RdAt C H a d pos) : Ev (tMeth C "aligned" (sp_alig C) [] E to tNil) σ H (.bl (decide (pos % 8 = 0))) := by
  obtain ⟨dx, ha⟩ := id hR
  exact ev_mth h ha rfl ea_nil fun H1 e Q q _ => ⟨a, d, pos, rfl, hR.ex e, q⟩

/-- the bits from a position to the end of its byte -/
def restN (ds : List Nat) (pos : Nat) : Nat := ds.getD (pos / 8) 0 % 2 ^ (8 - pos % 8)
def sp_rest (C : Addr) : Sp := fun vs H Q _ => ∃ (a d : Addr) (ds : List Nat) (pos : Nat), vs = [.ref a] ∧ RdAt C H a d pos ∧ H d = some (.lst ((cs ds).map V.int)) ∧ ds.length ≤ 100000 ∧ RetV (.int ((restN ds pos : Nat) : Int)) H Q
theorem mask_rest (x p : Nat) : Builtin.bitAnd (x : Int) ((255 : Int) / 2 ^ (((p % 8 : Nat) : Int)).toNat) = ((x % 2 ^ (8 - p % 8) : Nat) : Int) := by
  have h8 : p % 8 < 8 := Nat.mod_lt _ (by decide)
  rw [Int.toNat_natCast, pow_cast]
  have e : (255 : Int) / ((2 ^ (p % 8) : Nat) : Int) = 2 ^ (8 - p % 8) - 1 := by
    generalize p % 8 = m at h8
    match m, h8 with
    | 0, _ => rfl
    | 1, _ => rfl
    | 2, _ => rfl
    | 3, _ => rfl
    | 4, _ => rfl
    | 5, _ => rfl
    | 6, _ => rfl
    | 7, _ => rfl
  rw [e, bitAnd_maskZ, pow_cast, Int.natCast_emod]
theorem ok_BitReader_rest_of_byte (T : TX K mg) : FnOk P w K mg base CX0 2 T.a_BitReader_rest_of_byte T.d_BitReader_rest_of_byte ["self"] (sp_rest T.C_BitReader) := by
  refine T.F_BitReader_rest_of_byte.ok sc_BitReader_rest_of_byte (fun vs H Q E h => by obtain ⟨a, d, ds, pos, rfl, _⟩ := h; rfl) (fun cdv A outer s H vs Q E hr h => ?_)
  obtain ⟨a, d, ds, pos, rfl, hR, hd, hlen, k⟩ := h
  obtain ⟨dx, ha⟩ := id hR
  refine ⟨_, (pss_cons (ps_set (i := 1) sc_BitReader_rest_of_byte.nd rfl (Or.inl rfl) (pe_meth0 (pv 0) T.cl_BitReader T.me_BitReader_byte_place (ok_BitReader_byte_place T) (hr.mono (by decide)) T.b_BitReader_byte_place .nil pass0))
      (pss_cons (ps_if (pt_cmpR op_ge (pv 1) (pe_callB (r := rLenS K) call_len_seq (by rfl) T.m_len PySem.boot_len (pa_cons (pe_fld (pv 0) rfl) pa_nil)) (nomark _)) (pss_one (ps_ret pe_int)) pss_nil)
      (pss_one (ps_ret (pe_op op_and (pe_ix (r := rIxL K) ix_list (pe_fld (pv 0) rfl) (pv 1) (fun _ _ => rfl)) (pe_op op_shr pe_int (pe_op op_mod (pe_fld (pv 0) rfl) pe_int))))))), ?_⟩
  refine q_asg (v := .int ((pos / 8 : Nat) : Int)) (ev_place (f := fun pos => (pos / 8 : Nat)) (ev_var rfl) hR rfl) fun H1 e1 => ?_
  have hD : ∀ {σ : L2.St} {H1 : Hp} {te : TE}, Ex H H1 → Ev te σ H1 (.ref a) → Ev (tFld K te "_data") σ H1 (.ref d) := fun e h => ev_fld T.cl_BitReader T.n_BitReader_data h (e _ _ ha) rfl
  refine q_when (b := decide (ds.length ≤ pos / 8)) (et_test (Ev.is (ev_I0 (ev_var rfl) (Ev.is (ev_lenS (Ev.s (hD e1 (ev_var rfl)) (sq_of (e1 _ _ hd)))) (by rw [List.length_map, cs_len]))) (congrArg V.bl (decide_eq_decide.mpr (by show (ds.length : Int) ≤ ((pos / 8 : Nat) : Int) ↔ _; omega))))) (fun hb H2 e2 => ?_) (fun hb H2 e2 => ?_)
  · have hb := of_decide_eq_true hb
    have hz : restN ds pos = 0 := by
      unfold restN
      rw [List.getD_eq_getElem?_getD, List.getElem?_eq_none (by omega)]
      exact Nat.zero_mod _
    rw [hz] at k
    exact s_ret (Ev.is ev_c rfl) fun H3 e3 => k H3 ((e1.trans e2).trans e3)
  · have hb := of_decide_eq_false hb
    have hat : ds[pos / 8]? = some (ds.getD (pos / 8) 0) := by rw [List.getD_eq_getElem?_getD, List.getElem?_eq_getElem (by omega)]; rfl
    refine s_ret (v := .int ((restN ds pos : Nat) : Int)) (Ev.is (ev_I0 (ev_at (Ev.s (hD (e1.trans e2) (ev_var rfl)) (sq_of ((e1.trans e2) _ _ hd))) (ev_var rfl) (at_of rfl (at_int (cs_at hat)))) (ev_I (j := ((pos % 8 : Nat) : Int)) ev_c (Ev.is (ev_I (ev_fld T.cl_BitReader T.n_BitReader_position (v := .int (pos : Int)) (ev_var rfl) ((e1.trans e2) _ _ ha) rfl) ev_c (by decide)) (congrArg V.int (by omega))) (by show (0 : Int) ≤ _; omega))) (congrArg V.int (mask_rest _ _))) fun H3 e3 => k H3 ((e1.trans e2).trans e3)
theorem ev_rest {σ : L2.St} {H : Hp} {to : TE} {E : XK} {C a d : Addr} {ds : List Nat} {pos : Nat} (h : Ev to σ H (.ref a)) (hR : RdAt C H a d pos) (hd : H d = some (.lst ((cs ds).map V.int))) (hl : ds.length ≤ 100000) : Ev (tMeth C "_rest_of_byte" (sp_rest C) [] E to tNil) σ H (.int ((restN ds pos : Nat) : Int)) := by
  obtain ⟨dx, ha⟩ := id hR
  exact ev_mth h ha rfl ea_nil fun H1 e Q q _ => ⟨a, d, ds, pos, rfl, hR.ex e, e _ _ hd, hl, q⟩

/-! ### bits of bytes by their places -/
theorem flat_at : ∀ (ds : List Nat) (i : Nat), i < 8 * ds.length → (ds.flatMap bits8)[i]? = some ((ds.getD (i / 8) 0).testBit (7 - i % 8))
  | [], i, h => by rw [List.length_nil] at h; omega
  | d :: r, i, h => by
    rw [List.length_cons] at h
    rw [List.flatMap_cons]
    by_cases hi : i < 8
    · rw [List.getElem?_append_left (by show i < 8; exact hi), bits8_N, bitsN_at hi, show i / 8 = 0 by omega, show i % 8 = i by omega]
      rfl
    · rw [List.getElem?_append_right (by show 8 ≤ i; omega)]
      show (r.flatMap bits8)[i - 8]? = _
      rw [flat_at r (i - 8) (by omega), show i / 8 = (i - 8) / 8 + 1 by omega, show i % 8 = (i - 8) % 8 by omega]
      rfl
theorem valL_next {bs : List Bool} {at_ i : Nat} {b : Bool} (h : bs[at_ + i]? = some b) : valL ((bs.drop at_).take (i + 1)) = 2 * valL ((bs.drop at_).take i) + b.toNat := by
  rw [List.take_add_one, List.getElem?_drop, h]
  exact valL_snoc _ _
theorem valL_rest {ds : List Nat} (hd : ∀ d ∈ ds, d < 256) {pos : Nat} (h : pos / 8 < ds.length) : valL (((ds.flatMap bits8).drop pos).take (8 - pos % 8)) = ds.getD (pos / 8) 0 % 2 ^ (8 - pos % 8) := by
  have e1 : (pos + (8 - pos % 8) + 7) / 8 - pos / 8 = 1 := by omega
  have e2 : 8 * ((pos + (8 - pos % 8) + 7) / 8) - (pos + (8 - pos % 8)) = 0 := by omega
  rw [slice_bits hd (by omega), e1, e2, List.drop_eq_getElem_cons h, List.take_succ_cons, List.take_zero, Nat.pow_zero, Nat.div_one]
  have e3 : ds.getD (pos / 8) 0 = ds[pos / 8] := by rw [List.getD_eq_getElem?_getD, List.getElem?_eq_getElem h]; rfl
  rw [e3]
  show (0 * 2 ^ 8 + ds[pos / 8]) % _ = _
  rw [Nat.zero_mul, Nat.zero_add]

def sgN (wd v : Nat) : Int := if 2 * v < 2 ^ wd then (v : Int) else (v : Int) - (2 ^ wd : Nat)
def sp_readS (C CT : Addr) : Sp := fun vs H Q E => ∃ (a d : Addr) (ds : List Nat) (pos wd : Nat), vs = [.ref a, .int (wd : Int)] ∧ RdAt C H a d pos ∧ H d = some (.lst ((cs ds).map V.int)) ∧ (∀ b ∈ ds, b < 256) ∧ wd ≤ 64 ∧ ds.length ≤ 100000 ∧
  (pos + wd ≤ 8 * ds.length → ∀ H', FrA a H H' → RdAt C H' a d (pos + wd) → Q (.int (sgN wd (valL (((ds.flatMap bits8).drop pos).take wd)))) H') ∧ (8 * ds.length < pos + wd → RdErr E CT "Truncated" ds.length H)
theorem ok_BitReader_read_signed (T : TX K mg) : FnOk P w K mg base (L2.CX P w) 4 T.a_BitReader_read_signed T.d_BitReader_read_signed ["self", "width"] (sp_readS T.C_BitReader T.C_Truncated) := by
  refine T.F_BitReader_read_signed.okX sc_BitReader_read_signed (fun vs H Q E h => by obtain ⟨a, d, ds, pos, wd, rfl, _⟩ := h; rfl) (fun cdv A outer s H vs Q E hr h => ?_)
  obtain ⟨a, d, ds, pos, wd, rfl, hR, hd, hds, hw, hlen, k, kE⟩ := h
  obtain ⟨dx, ha⟩ := id hR
  refine ⟨_, (pss_cons (ps_set (i := 2) sc_BitReader_read_signed.nd rfl (Or.inl rfl) (pe_methX (pv 0) T.cl_BitReader T.me_BitReader_read (ok_BitReader_read T) (hr.mono (by decide)) T.b_BitReader_read .nil (fun σ => passAt (takes_of rfl rfl rfl rfl) σ) (pa_cons (pv 1) pa_nil)))
      (pss_cons (ps_if (pt_cmpR op_lt (pe_op op_mul (pv 2) pe_int) (pe_op op_shl pe_int (pv 1)) (nomark _)) (pss_one (ps_ret (pv 2))) pss_nil)
      (pss_one (ps_ret (pe_op op_sub (pv 2) (pe_op op_shl pe_int (pv 1))))))), ?_⟩
  refine q_asgMX (sp := sp_readX T.C_BitReader T.C_Truncated) (m := "read") (dvs := []) (vs := [.int (wd : Int)]) (ev_var rfl) ha rfl (ea_cons (ev_var rfl) ea_nil) fun H1 e1 => ⟨a, d, ds, pos, wd, rfl, hR.ex e1, e1 _ _ hd, hds, hw, hlen, fun hp H2 hF hR2 => ?_, fun hp H2 dd e2 he => kE hp H2 dd (e1.trans e2) he⟩
  have k := k hp
  generalize valL (((ds.flatMap bits8).drop pos).take wd) = v at *
  have hsh : ∀ {σ : L2.St} {H1 : Hp} {te : TE}, Ev te σ H1 (.int (wd : Int)) → Ev (tOp (rI CPow fun i j => .int (i * 2 ^ j.toNat)) (tC (.int 1)) te) σ H1 (.int ((2 ^ wd : Nat) : Int)) := fun h => Ev.is (ev_I ev_c h (show CPow 1 (wd : Int) from ⟨by omega, by omega, by decide⟩)) (congrArg V.int (by rw [Int.toNat_natCast, Int.one_mul, pow_cast]))
  refine q_when (b := decide (2 * v < 2 ^ wd)) (et_test (Ev.is (ev_I0 (ev_I (ev_var rfl) ev_c (.inr (by decide))) (hsh (ev_var rfl))) (congrArg V.bl (decide_eq_decide.mpr (by show (v : Int) * 2 < ((2 ^ wd : Nat) : Int) ↔ _; generalize 2 ^ wd = q; omega))))) (fun hb H3 e3 => ?_) (fun hb H3 e3 => ?_)
  · have hb := of_decide_eq_true hb
    unfold sgN at k
    rw [if_pos hb] at k
    exact s_ret (ev_var rfl) fun H4 e4 => k H4 (((FrA.ex e1).trans hF).trans (FrA.ex (e3.trans e4))) (hR2.ex (e3.trans e4))
  · have hb := of_decide_eq_false hb
    unfold sgN at k
    rw [if_neg hb] at k
    exact s_ret (ev_I0 (ev_var rfl) (hsh (ev_var rfl))) fun H4 e4 => k H4 (((FrA.ex e1).trans hF).trans (FrA.ex (e3.trans e4))) (hR2.ex (e3.trans e4))

def zrun (B : List Bool) (pos z : Nat) : Prop := (∀ i, i < z → B[pos + i]? = some false) ∧ B[pos + z]? = some true
def ahd (ds : List Nat) (pos pl : Nat) : Nat := if pl = pos / 8 then restN ds pos else ds.getD pl 0
theorem ahd_bit {ds : List Nat} {pos pl i : Nat} (hp : pl < ds.length) (h1 : 8 * pl ≤ pos + i) (h2 : pos + i < 8 * pl + 8) : (ds.flatMap bits8)[pos + i]? = some ((ahd ds pos pl).testBit (7 - (pos + i) % 8)) := by
  rw [flat_at ds (pos + i) (by omega), show (pos + i) / 8 = pl by omega]
  unfold ahd
  split
  · rename_i h
    unfold restN
    rw [Nat.testBit_mod_two_pow, decide_eq_true (by omega), Bool.true_and, h]
  · rfl
theorem ahd_lt {ds : List Nat} (hds : ∀ b ∈ ds, b < 256) (pos pl : Nat) : ahd ds pos pl < 2 ^ (if pl = pos / 8 then 8 - pos % 8 else 8) := by
  unfold ahd
  split
  · exact Nat.mod_lt _ (Nat.two_pow_pos _)
  · by_cases h : pl < ds.length
    · rw [List.getD_eq_getElem?_getD, List.getElem?_eq_getElem h]
      exact hds _ (List.getElem_mem h)
    · rw [List.getD_eq_getElem?_getD, List.getElem?_eq_none (by omega)]
      exact (by decide : 0 < 256)
def sp_readU (C CT : Addr) : Sp := fun vs H Q E => ∃ (a d : Addr) (ds : List Nat) (pos : Nat), vs = [.ref a] ∧ RdAt C H a d pos ∧ H d = some (.lst ((cs ds).map V.int)) ∧ (∀ b ∈ ds, b < 256) ∧ ds.length ≤ 100000 ∧
  (∀ z, zrun (ds.flatMap bits8) pos z → ∀ H', FrA a H H' → RdAt C H' a d (pos + z + 1) → Q (.int (z : Int)) H') ∧ ((∀ i : Nat, (ds.flatMap bits8)[pos + i]? ≠ some true) → RdErr E CT "Truncated" ds.length H)
theorem ev_bits {σ : L2.St} {H : Hp} {to : TE} {i : Int} (h : Ev to σ H (.int i)) : Ev (tBits to) σ H (.int ((Builtin.Int.intBits i : Nat) : Int)) := fun H1 e Q q => h H1 e _ fun H2 e2 => ⟨i, rfl, q H2 e2⟩
theorem ok_BitReader_read_unary (T : TX K mg) : FnOk P w K mg base (L2.CX P w) 3 T.a_BitReader_read_unary T.d_BitReader_read_unary ["self"] (sp_readU T.C_BitReader T.C_Truncated) := by
  refine T.F_BitReader_read_unary.okX sc_BitReader_read_unary (fun vs H Q E h => by obtain ⟨a, d, ds, pos, rfl, _⟩ := h; rfl) (fun cdv A outer s H vs Q E hr h => ?_)
  obtain ⟨a, d, ds, pos, rfl, hR, hd, hds, hlen, k, kE⟩ := h
  obtain ⟨dx, ha⟩ := id hR
  refine ⟨_, (pss_cons (ps_set (i := 1) sc_BitReader_read_unary.nd rfl (Or.inl rfl) (pe_fld (pv 0) rfl))
      (pss_cons (ps_set (i := 2) sc_BitReader_read_unary.nd rfl (Or.inl rfl) (pe_op op_fdiv (pe_fld (pv 0) rfl) pe_int))
      (pss_cons (ps_set (i := 3) sc_BitReader_read_unary.nd rfl (Or.inl rfl) (pe_meth0 (pv 0) T.cl_BitReader T.me_BitReader_rest_of_byte (ok_BitReader_rest_of_byte T) (hr.mono (by decide)) T.b_BitReader_rest_of_byte .nil pass0))
      (pss_cons (ps_while (passes_of rfl) (pt_cmpR op_eq (pv 3) pe_int (nomark _)) (pss_cons (ps_aug (i := 2) sc_BitReader_read_unary.nd rfl (Or.inl rfl) pe_int ip_add)
        (pss_cons (ps_if (pt_cmpR op_ge (pv 2) (pe_callB (r := rLenS K) call_len_seq (by rfl) T.m_len PySem.boot_len (pa_cons (pv 1) pa_nil)) (nomark _)) (pss_one (ps_raise rfl (takes_of rfl rfl rfl rfl) (pmk_oex T.x_Truncated.ox T.x_Truncated.iC T.ti_MonochordError_init (ok_MonochordError_init T) (hr.mono (by decide)) T.b_MonochordError_init .nil pass0 (by rfl) T.g_Truncated (pa_cons (pe_callB (r := rLenS K) call_len_seq (by rfl) T.m_len PySem.boot_len (pa_cons (pv 1) pa_nil)) pa_nil)))) pss_nil)
        (pss_one (ps_set (i := 3) sc_BitReader_read_unary.nd rfl (Or.inl rfl) (pe_ix (r := rIxL K) ix_list (pv 1) (pv 2) (fun _ _ => rfl)))))))
      (pss_cons (ps_set (i := 4) sc_BitReader_read_unary.nd rfl (Or.inl rfl) (pe_op op_sub (pe_op op_add (pe_op op_mul (pv 2) pe_int) pe_int) (pe_bits (pv 3))))
      (pss_cons (ps_set (i := 5) sc_BitReader_read_unary.nd rfl (Or.inl rfl) (pe_op op_sub (pv 4) (pe_fld (pv 0) rfl)))
      (pss_cons (ps_fld (pv 0) (pe_op op_add (pv 4) pe_int) rfl)
      (pss_one (ps_ret (pv 5)))))))))), ?_⟩
  refine q_asg (ev_fld T.cl_BitReader T.n_BitReader_data (v := .ref d) (ev_var rfl) ha rfl) fun H1 e1 => ?_
  refine q_asg (v := .int ((pos / 8 : Nat) : Int)) (Ev.is (ev_I (ev_fld T.cl_BitReader T.n_BitReader_position (v := .int (pos : Int)) (ev_var rfl) (e1 _ _ ha) rfl) ev_c ⟨by decide, by decide⟩) (congrArg V.int (by show _ = ((pos / 8 : Nat) : Int); omega))) fun H2 e2 => ?_
  have ex2 := e1.trans e2
  refine q_asg (v := .int ((ahd ds pos (pos / 8) : Nat) : Int)) (Ev.is (ev_rest (ev_var rfl) (hR.ex ex2) (ex2 _ _ hd) hlen) (congrArg V.int (by unfold ahd; rw [if_pos rfl]))) fun H3 e3 => ?_
  have hlv : ∀ {σ : L2.St} {H1 : Hp} {te : TE}, Ex H H1 → Ev te σ H1 (.ref d) → Ev (tCB (rLenS K) (tCons te tNil)) σ H1 (.int (ds.length : Int)) := fun e h => Ev.is (ev_lenS (Ev.s h (sq_of (e _ _ hd)))) (by rw [List.length_map, cs_len])
  refine q_while (fun m σ' H' => ∃ pl : Nat, m = ds.length - pl ∧ σ' = [some (.ref a), some (.ref d), some (.int (pl : Int)), some (.int ((ahd ds pos pl : Nat) : Int)), none, none] ∧ Ex H H' ∧ pos / 8 ≤ pl ∧ (pl = pos / 8 ∨ pl < ds.length) ∧ ∀ i, pos + i < 8 * pl → (ds.flatMap bits8)[pos + i]? = some false) (ds.length - pos / 8) ⟨pos / 8, rfl, rfl, ex2.trans e3, Nat.le_refl _, .inl rfl, fun i hi => by omega⟩ ?_
  rintro m _ H4 ⟨pl, rfl, rfl, ex, hpl, hor, hfal⟩
  refine ⟨decide (ahd ds pos pl = 0), et_test (Ev.is (ev_eq (ev_var rfl) ev_c rfl) (congrArg V.bl (decide_eq_decide.mpr ⟨fun h => by have := V.int.inj h; omega, fun h => by rw [h]; rfl⟩))), fun hb H5 e5 => ?_, fun hb H5 e5 => ?_⟩
  · have hb := of_decide_eq_true hb
    refine ⟨fun σ2 H2 => ∃ m', m' < ds.length - pl ∧ _, fun σ2 H2 h => h, ?_⟩
    refine q_aug (b := 1) rfl ev_c fun H6 e6 => ?_
    rw [show (pl : Int) + 1 = ((pl + 1 : Nat) : Int) by omega]
    have ex6 := (ex.trans e5).trans e6
    have hz : ∀ i, pos + i < 8 * (pl + 1) → pos + i < 8 * ds.length → (ds.flatMap bits8)[pos + i]? = some false := fun i hi hi2 => by
      by_cases h : pos + i < 8 * pl
      · exact hfal i h
      · rw [ahd_bit (pl := pl) (by omega) (by omega) (by omega), hb, Nat.zero_testBit]
    refine q_when (b := decide (ds.length ≤ pl + 1)) (et_test (Ev.is (ev_I0 (ev_var rfl) (hlv ex6 (ev_var rfl))) (congrArg V.bl (decide_eq_decide.mpr (by show (ds.length : Int) ≤ ((pl + 1 : Nat) : Int) ↔ _; omega))))) (fun hc H7 e7 => ?_) (fun hc H7 e7 => ?_)
    · have hc := of_decide_eq_true hc
      refine mk_err T.x_Truncated (ea_cons (hlv (ex6.trans e7) (ev_var rfl)) ea_nil) fun H8 dd hdd e8 he => kE (fun i => ?_) H8 dd ((ex6.trans e7).trans e8) he
      by_cases h : pos + i < 8 * ds.length
      · rw [hz i (by omega) h]
        decide
      · rw [List.getElem?_eq_none (by rw [bits_flat_len]; omega)]
        decide
    · have hc := of_decide_eq_false hc
      have hat : ds[pl + 1]? = some (ds.getD (pl + 1) 0) := by rw [List.getD_eq_getElem?_getD, List.getElem?_eq_getElem (by omega)]; rfl
      refine s_asg (v := .int ((ahd ds pos (pl + 1) : Nat) : Int)) (Ev.is (ev_at (Ev.s (ev_var rfl) (sq_of ((ex6.trans e7) _ _ hd))) (ev_var rfl) (at_of rfl (at_int (cs_at hat)))) (congrArg V.int (by unfold ahd; rw [if_neg (by omega)]))) fun H8 e8 => ?_
      exact ⟨ds.length - (pl + 1), by omega, pl + 1, rfl, rfl, (ex6.trans e7).trans e8, by omega, .inr (by omega), fun i hi => hz i hi (by omega)⟩
  · have hb := of_decide_eq_false hb
    have hlt := ahd_lt hds pos pl
    have hpl2 : pl < ds.length := by
      rcases hor with h | h
      · by_cases h2 : pl < ds.length
        · exact h2
        · exfalso
          apply hb
          unfold ahd restN
          rw [if_pos h, List.getD_eq_getElem?_getD, List.getElem?_eq_none (by omega)]
          exact Nat.zero_mod _
      · exact h
    obtain ⟨x, hx⟩ : ∃ x, ahd ds pos pl = x := ⟨_, rfl⟩
    have hbit := fun i h1 h2 => ahd_bit (ds := ds) (pos := pos) (pl := pl) (i := i) hpl2 h1 h2
    rw [hx] at hb hlt hbit
    rw [hx]
    have hL : Builtin.Int.intBits (x : Int) = x.log2 + 1 := by
      unfold Builtin.Int.intBits
      rw [if_neg (by simpa using hb), Int.natAbs_natCast]
    obtain ⟨L, hLe⟩ : ∃ L, x.log2 + 1 = L := ⟨_, rfl⟩
    have hxL : x < 2 ^ L := by rw [← hLe]; exact Nat.lt_log2_self
    have hx1 : x.testBit (L - 1) = true := by rw [← hLe, Nat.add_sub_cancel]; exact Nat.testBit_log2 hb
    have hL8 : L ≤ if pl = pos / 8 then 8 - pos % 8 else 8 := by
      have h3 : 2 ^ (L - 1) ≤ x := by rw [← hLe, Nat.add_sub_cancel]; exact Nat.log2_self_le hb
      have h4 := (Nat.pow_lt_pow_iff_right (by decide : 1 < 2)).mp (Nat.lt_of_le_of_lt h3 hlt)
      omega
    have hone : pos ≤ 8 * pl + 8 - L ∧ 1 ≤ L ∧ L ≤ 8 := by
      split at hL8 <;> omega
    have hz : zrun (ds.flatMap bits8) pos (8 * pl + 8 - L - pos) := by
      refine ⟨fun i hi => ?_, ?_⟩
      · by_cases h : pos + i < 8 * pl
        · exact hfal i h
        · rw [hbit i (by omega) (by omega)]
          have h5 : x < 2 ^ (7 - (pos + i) % 8) := Nat.lt_of_lt_of_le hxL (Nat.pow_le_pow_right (by decide) (by omega))
          rw [Nat.testBit_lt_two_pow h5]
      · rw [hbit _ (by omega) (by omega), show 7 - (pos + (8 * pl + 8 - L - pos)) % 8 = L - 1 by omega, hx1]
    have k := k _ hz
    have ex5 := ex.trans e5
    refine q_asg (v := .int ((8 * pl + 8 - L : Nat) : Int)) (Ev.is (ev_I0 (ev_I0 (ev_I (ev_var rfl) ev_c (.inr (by decide))) ev_c) (ev_bits (ev_var rfl))) (congrArg V.int (by rw [hL, hLe]; omega))) fun H6 e6 => ?_
    refine q_asg (v := .int ((8 * pl + 8 - L - pos : Nat) : Int)) (Ev.is (ev_I0 (ev_var rfl) (ev_fld T.cl_BitReader T.n_BitReader_position (v := .int (pos : Int)) (ev_var rfl) ((ex5.trans e6) _ _ ha) rfl)) (congrArg V.int (by omega))) fun H7 e7 => ?_
    have ex7 := (ex5.trans e6).trans e7
    refine q_fld T.cl_BitReader T.n_BitReader_position (v := .int ((pos + (8 * pl + 8 - L - pos) + 1 : Nat) : Int)) (Ev.is (ev_I0 (ev_var rfl) ev_c) (congrArg V.int (by omega))) (ev_var rfl) (ex7 _ _ ha) (Nat.le_of_ble_eq_true rfl) fun H8 e8 => ?_
    exact s_ret (ev_var rfl) fun H9 e9 => k H9 (((FrA.ex ex7).trans (FrA.ex e8)).upd.trans (FrA.ex e9)) (RdAt.ex e9 ⟨dx, upd_same⟩)

def bytesAt (ds : List Nat) (pos n : Nat) : List Nat := (List.range n).map fun i => valL (((ds.flatMap bits8).drop (pos + 8 * i)).take 8)
theorem bytesAt_len (ds : List Nat) (pos n : Nat) : (bytesAt ds pos n).length = n := by unfold bytesAt; rw [List.length_map, List.length_range]
theorem bytesAt_get {ds : List Nat} {pos n i : Nat} (h : i < n) : (bytesAt ds pos n)[i]? = some (valL (((ds.flatMap bits8).drop (pos + 8 * i)).take 8)) := by
  unfold bytesAt
  rw [List.getElem?_map, List.getElem?_range h]
  rfl
theorem valL_byte {ds : List Nat} (hd : ∀ d ∈ ds, d < 256) {i : Nat} (h : i < ds.length) : valL (((ds.flatMap bits8).drop (8 * i)).take 8) = ds[i] := by
  rw [flat_drop, show (8 : Nat) = 8 * 1 from rfl, flat_take, List.drop_eq_getElem_cons h, List.take_succ_cons, List.take_zero, List.flatMap_cons, List.flatMap_nil, List.append_nil]
  exact valL_8 _ (hd _ (List.getElem_mem h))
theorem bytesAt_al {ds : List Nat} (hd : ∀ d ∈ ds, d < 256) {p n : Nat} (h : p + n ≤ ds.length) : bytesAt ds (8 * p) n = (ds.drop p).take n := by
  refine List.ext_getElem? fun i => ?_
  by_cases hi : i < n
  · rw [bytesAt_get hi, List.getElem?_take, if_pos hi, List.getElem?_drop, List.getElem?_eq_getElem (by omega), ← Nat.mul_add, valL_byte hd (by omega)]
  · rw [List.getElem?_eq_none (by rw [bytesAt_len]; omega), List.getElem?_eq_none (by rw [List.length_take]; omega)]
def sp_readB (C CT : Addr) : Sp := fun vs H Q E => ∃ (a d : Addr) (ds : List Nat) (pos n : Nat), vs = [.ref a, .int (n : Int)] ∧ RdAt C H a d pos ∧ H d = some (.lst ((cs ds).map V.int)) ∧ (∀ b ∈ ds, b < 256) ∧ ds.length ≤ 40000 ∧ n ≤ 100000 ∧
  (pos + 8 * n ≤ 8 * ds.length → ∀ p H', H p = none → FrA a H H' → RdAt C H' a d (pos + 8 * n) → H' p = some (.lst ((cs (bytesAt ds pos n)).map V.int)) → Q (.ref p) H') ∧ (8 * ds.length < pos + 8 * n → RdErr E CT "Truncated" ds.length H)
theorem ok_BitReader_read_bytes (T : TX K mg) : FnOk P w K mg base (L2.CX P w) 4 T.a_BitReader_read_bytes T.d_BitReader_read_bytes ["self", "count"] (sp_readB T.C_BitReader T.C_Truncated) := by
  refine T.F_BitReader_read_bytes.okX sc_BitReader_read_bytes (fun vs H Q E h => by obtain ⟨a, d, ds, pos, n, rfl, _⟩ := h; rfl) (fun cdv A outer s H vs Q E hr h => ?_)
  obtain ⟨a, d, ds, pos, n, rfl, hR, hd, hds, hlen, hn, k, kE⟩ := h
  obtain ⟨dx, ha⟩ := id hR
  refine ⟨_, (pss_cons (ps_set (i := 2) sc_BitReader_read_bytes.nd rfl (Or.inl rfl) (pe_fld (pv 0) rfl))
      (pss_cons (ps_if (pt_cmpR op_gt (pe_op op_add (pe_fld (pv 0) rfl) (pe_op op_mul (pv 1) pe_int)) (pe_op op_mul (pe_callB (r := rLenS K) call_len_seq (by rfl) T.m_len PySem.boot_len (pa_cons (pv 2) pa_nil)) pe_int) (nomark _)) (pss_one (ps_raise rfl (takes_of rfl rfl rfl rfl) (pmk_oex T.x_Truncated.ox T.x_Truncated.iC T.ti_MonochordError_init (ok_MonochordError_init T) (hr.mono (by decide)) T.b_MonochordError_init .nil pass0 (by rfl) T.g_Truncated (pa_cons (pe_callB (r := rLenS K) call_len_seq (by rfl) T.m_len PySem.boot_len (pa_cons (pv 2) pa_nil)) pa_nil)))) pss_nil)
      (pss_cons (ps_if (pt_not (pt_val (pe_meth0 (pv 0) T.cl_BitReader T.me_BitReader_aligned (ok_BitReader_aligned T) (hr.mono (by decide)) T.b_BitReader_aligned .nil pass0))) (pss_one (ps_ret (pe_lc (own := [("_", 4)]) (g := gName 4) (tt := tYes) rfl sc_BitReader_read_bytes.nd (pi_range1 (by rfl) T.m_range (pa_cons (pv 1) pa_nil)) (blkOk_by (N := ["self", "count", "data", "place", "_"]) (sc := defScope s_BitReader_read_bytes) (by decide +kernel)) (fun _ _ _ _ _ => pg_name (i := 4) sc_BitReader_read_bytes.nd rfl (Or.inl rfl)) (fun _ _ _ _ _ => pts_nil) (fun _ _ _ _ _ => (pe_meth (pv 0) T.cl_BitReader T.me_BitReader_read (ok_BitReader_read T) (hr.mono (by decide)) T.b_BitReader_read .nil passL (pa_cons pe_int pa_nil)))))) pss_nil)
      (pss_cons (ps_set (i := 3) sc_BitReader_read_bytes.nd rfl (Or.inl rfl) (pe_meth0 (pv 0) T.cl_BitReader T.me_BitReader_byte_place (ok_BitReader_byte_place T) (hr.mono (by decide)) T.b_BitReader_byte_place .nil pass0))
      (pss_cons (ps_fldaug (pv 0) (pe_op op_mul (pv 1) pe_int) in_add)
      (pss_one (ps_ret (pe_slice (r := rSlL K) sl_list (pv 2) (po_some (pv 3)) (po_some (pe_op op_add (pv 3) (pv 1))))))))))), ?_⟩
  refine q_asg (ev_fld T.cl_BitReader T.n_BitReader_data (v := .ref d) (ev_var rfl) ha rfl) fun H1 e1 => ?_
  have hlv : ∀ {σ : L2.St} {H1 : Hp} {te : TE}, Ex H H1 → Ev te σ H1 (.ref d) → Ev (tCB (rLenS K) (tCons te tNil)) σ H1 (.int (ds.length : Int)) := fun e h => Ev.is (ev_lenS (Ev.s h (sq_of (e _ _ hd)))) (by rw [List.length_map, cs_len])
  refine q_when (b := decide (8 * ds.length < pos + 8 * n)) (et_test (Ev.is (ev_I0 (ev_I0 (ev_fld T.cl_BitReader T.n_BitReader_position (v := .int (pos : Int)) (ev_var rfl) (e1 _ _ ha) rfl) (ev_I (ev_var rfl) ev_c (.inr (by decide)))) (ev_I (hlv e1 (ev_var rfl)) ev_c (.inr (by decide)))) (congrArg V.bl (decide_eq_decide.mpr (by show (_ : Int) < _ ↔ _; omega))))) (fun hb H2 e2 => ?_) (fun hb H2 e2 => ?_)
  · have hb := of_decide_eq_true hb
    exact mk_err T.x_Truncated (ea_cons (hlv (e1.trans e2) (ev_var rfl)) ea_nil) fun H8 dd hdd e8 he => kE hb H8 dd ((e1.trans e2).trans e8) he
  have hb : pos + 8 * n ≤ 8 * ds.length := by have := of_decide_eq_false hb; omega
  have k := k hb
  have ex2 := e1.trans e2
  refine q_when (b := !decide (pos % 8 = 0)) (et_not (et_B (ev_aligned (ev_var rfl) (hR.ex ex2)))) (fun hc H3 e3 => ?_) (fun hc H3 e3 => ?_)
  · have ex3 := ex2.trans e3
    refine tlc_rngM (n := (n : Int)) (ea_cons (ev_var rfl) ea_nil) (by omega) fun H4 e4 D hD => ⟨fun i H' => FrA a H H' ∧ RdAt T.C_BitReader H' a d (pos + 8 * i) ∧ H' D = some (.lst ((cs (bytesAt ds pos i)).map V.int)), ?_, fun i H' hi h => ?_, fun H' h => ?_⟩
    · refine ⟨(FrA.ex (ex3.trans e4)).trans (FrA.ex (Ex.new hD)), (hR.ex (ex3.trans e4)).ex (Ex.new hD), upd_same⟩
    · obtain ⟨hF, hR', hDl⟩ := h
      obtain ⟨dx', ha'⟩ := id hR'
      have hD0 : H D = none := by cases h : H D with | none => rfl | some o => rw [(ex3.trans e4) _ _ h] at hD; cases hD
      have hdd : H' d = some (.lst ((cs ds).map V.int)) := hF _ _ (hR.ne hd) hd
      refine ⟨rfl, mth (sp := sp_readX T.C_BitReader T.C_Truncated) (m := "read") (dvs := []) (vs := [.int 8]) (ev_var rfl) ha' rfl (ea_cons ev_c ea_nil) fun H6 e6 => ⟨a, d, ds, pos + 8 * i, 8, rfl, hR'.ex e6, e6 _ _ hdd, hds, by decide, by omega, fun _ H7 hF7 hR7 => ?_, fun hlt => by omega⟩⟩
      have hDa : D ≠ a := hR'.ne hDl
      have hD7 := hF7 _ _ hDa (e6 _ _ hDl)
      refine ⟨_, hD7, by rw [List.length_map, cs_len, bytesAt_len]; exact sz_lt (by omega), ?_, ?_, ?_⟩
      · exact fun b o hb ho => by
          rw [upd_ne (fun z => by rw [z, hD0] at ho; cases ho)]
          exact hF7 _ _ hb (e6 _ _ (hF _ _ hb ho))
      · obtain ⟨dx7, h7⟩ := hR7
        exact ⟨dx7, by rw [upd_ne hDa.symm]; exact h7⟩
      · rw [upd_same]
        unfold bytesAt
        rw [List.range_succ, List.map_append, cs_append, List.map_append]
        rfl
    · obtain ⟨hF, hR', hDl⟩ := h
      have hD0 : H D = none := by cases h : H D with | none => rfl | some o => rw [(ex3.trans e4) _ _ h] at hD; cases hD
      exact k D H' hD0 hF hR' hDl
  · have hc : pos % 8 = 0 := by simpa using hc
    have ex3 := ex2.trans e3
    refine q_asg (v := .int ((pos / 8 : Nat) : Int)) (ev_place (f := fun pos => (pos / 8 : Nat)) (ev_var rfl) (hR.ex ex3) rfl) fun H4 e4 => ?_
    have ex4 := ex3.trans e4
    refine q_fldaugI T.cl_BitReader T.n_BitReader_position (ev_var rfl) (ex4 _ _ ha) rfl (Ev.is (ev_I (ev_var rfl) ev_c (.inr (by decide))) (congrArg V.int (a₂ := ((8 * n : Nat) : Int)) (by omega))) (Nat.le_of_ble_eq_true rfl) fun H5 e5 => ?_
    rw [show (pos : Int) + ((8 * n : Nat) : Int) = ((pos + 8 * n : Nat) : Int) by omega]
    have hR6 : RdAt T.C_BitReader (upd H5 a (.ins T.C_BitReader dx (rF d (pos + 8 * n)))) a d (pos + 8 * n) := ⟨dx, upd_same⟩
    have hF6 : FrA a H (upd H5 a (.ins T.C_BitReader dx (rF d (pos + 8 * n)))) := (FrA.ex (ex4.trans e5)).upd
    have hd6 := hF6 _ _ (hR.ne hd) hd
    refine s_retL (xs := (cs (bytesAt ds pos n)).map V.int) (EvL.is (el_mid (ns := cs ds) (i := pos / 8) (j := pos / 8 + n) (Ev.s (ev_var rfl) (sq_of hd6)) (ev_var rfl) (Ev.is (ev_I0 (ev_var rfl) (ev_var rfl)) (congrArg V.int (by omega)))) (by
      rw [cs_drop, cs_take, show pos / 8 + n - pos / 8 = n by omega, ← bytesAt_al hds (by omega), show 8 * (pos / 8) = pos by omega])) fun p H7 hp e7 g7 => ?_
    exact k p H7 (by cases h : H p with | none => rfl | some o => by_cases hpa : p = a; (· rw [hpa, upd_same] at hp; cases hp); (· exact absurd ((hF6 _ _ hpa h).symm.trans hp) (fun z => by cases z))) (hF6.trans (FrA.ex e7)) (hR6.ex e7) g7

def sp_since (C : Addr) : Sp := fun vs H Q _ => ∃ (a d : Addr) (ds : List Nat) (pos pl : Nat), vs = [.ref a, .int (pl : Int)] ∧ RdAt C H a d pos ∧ H d = some (.lst ((cs ds).map V.int)) ∧ RetL ((cs ((ds.drop pl).take (pos / 8 - pl))).map V.int) H Q
theorem ok_BitReader_since (T : TX K mg) : FnOk P w K mg base CX0 2 T.a_BitReader_since T.d_BitReader_since ["self", "place"] (sp_since T.C_BitReader) := by
  refine T.F_BitReader_since.ok sc_BitReader_since (fun vs H Q E h => by obtain ⟨a, d, ds, pos, pl, rfl, _⟩ := h; rfl) (fun cdv A outer s H vs Q E hr h => ?_)
  obtain ⟨a, d, ds, pos, pl, rfl, hR, hd, k⟩ := h
  obtain ⟨dx, ha⟩ := id hR
  refine ⟨_, (pss_one (ps_ret (pe_slice (r := rSlL K) sl_list (pe_fld (pv 0) rfl) (po_some (pv 1)) (po_some (pe_meth0 (pv 0) T.cl_BitReader T.me_BitReader_byte_place (ok_BitReader_byte_place T) (hr.mono (by decide)) T.b_BitReader_byte_place .nil pass0))))), ?_⟩
  exact s_retL (EvL.is (el_mid (ns := cs ds) (i := pl) (j := pos / 8) (Ev.s (ev_fld T.cl_BitReader T.n_BitReader_data (v := .ref d) (ev_var rfl) ha rfl) (sq_of hd)) (ev_var rfl) (ev_place (f := fun pos => (pos / 8 : Nat)) (ev_var rfl) hR rfl)) (by rw [cs_drop, cs_take])) fun p H1 hp e1 g1 => k p H1 hp e1 g1

theorem q_forL' {σ : L2.St} {H : Hp} {D : Ends} {tu tz : TS} {tl : TE} {g : TG} {xs : List V} (h : EvL tl σ H xs) (k : ∀ p H1, H p = none → Ex H H1 → H1 p = some (.lst xs) → tSeq (tFor (iList K (tC (.ref p))) g tu) tz D σ H1) : tSeq (tFor (iList K tl) g tu) tz D σ H := h H (Ex.refl H) _ fun p H1 hp e g => k p H1 hp e g
theorem mk_r {C : Addr} {E : XK} {σ : L2.St} {H : Hp} {Q : VK} {t1 t2 : TE} {xs : List V} {n : Nat} (h1 : EvL t1 σ H xs) (h2 : Ev t2 σ H (.int (n : Int))) (hn : n ≤ 1000000) (k : ∀ a d H', H a = none → a ≠ d → H d = none → Ex H H' → H' d = some (.lst xs) → RdAt C H' a d (8 * n) → Q (.ref a) H') : tMake C (sp_rinit C) [] E (tCons t1 (tCons t2 tNil)) σ H Q :=
  h1 H (Ex.refl H) _ fun d H1 hd e1 g1 => h2 H1 e1 _ fun H2 e2 => fun x dx hx hdx hne => by
    have e12 := e1.trans e2
    have hxd : d ≠ x := fresh_ne hx (e2 _ _ g1)
    have hex : ∀ b o, H2 b = some o → upd (upd H2 dx (HO.own x)) x (HO.ins C dx []) b = some o := fun b o hb => by
      rw [upd_ne (fresh_ne hx hb), upd_ne (fresh_ne hdx hb)]
      exact hb
    refine ⟨x, dx, d, n, rfl, upd_same, hn, fun H' hF hR => ⟨rfl, k x d H' ?_ hxd.symm hd (fun b o hb => hF b o (fresh_ne hx (e12 _ _ hb)) (hex b o (e12 _ _ hb))) (hF d _ hxd (hex d _ (e2 _ _ g1))) hR⟩⟩
    cases h : H x with
    | none => rfl
    | some o => rw [e12 _ _ h] at hx; cases hx
theorem q_mk_r {C : Addr} {E : XK} {σ : L2.St} {H : Hp} {D : Ends} {tz : TS} {i : Nat} {t1 t2 : TE} {xs : List V} {n : Nat} (h1 : EvL t1 σ H xs) (h2 : Ev t2 σ H (.int (n : Int))) (hn : n ≤ 1000000) (k : ∀ a d H', H a = none → a ≠ d → H d = none → Ex H H' → H' d = some (.lst xs) → RdAt C H' a d (8 * n) → tz D (σ.set i (some (.ref a))) H') : tSeq (tAsg (tMake C (sp_rinit C) [] E (tCons t1 (tCons t2 tNil))) (gName i)) tz D σ H := mk_r (Q := fun x H' => tz D (σ.set i (some x)) H') h1 h2 hn k

/-- if o.m(..) OP e: .., what m promises first -/
theorem q_whenMop {σ : L2.St} {H : Hp} {to tb : TE} {a C dx : Addr} {fs : List (Str × V)} {m : Str} {D : Ends} {tu tz : TS} {sp : Sp} {dvs vs : List V} {E : XK} {t : TA} {r : R2} (h : Ev to σ H (.ref a)) (hx : H a = some (.ins C dx fs)) (hm : fs.lookup m = none) (ha : EvA t σ H vs)
    (k : ∀ H1, Ex H H1 → sp (.ref a :: (vs ++ dvs)) H1 (fun x H2 => tSeq (tIfS (tTest (tOp r (tC x) tb)) tu tNext) tz D σ H2) E) : tSeq (tIfS (tTest (tOp r (tMeth C m sp dvs E to t) tb)) tu tNext) tz D σ H := mth h hx hm ha k

theorem ev_same {σ : L2.St} {H : Hp} {t1 t2 : TE} {E : XK} {ns : List Int} (h1 : EvR t1 σ H (ns.map V.int)) (h2 : EvR t2 σ H (ns.map V.int)) (hl : ns.length ≤ 100000) : Ev (tCall sp_same [] E (tCons t1 (tCons t2 tNil))) σ H (.bl true) := fun H1 e Q q =>
  h1 H1 e _ fun p H2 e2 g2 => h2 H2 (e.trans e2) _ fun r H3 e3 g3 => ⟨p, r, ns, rfl, e3 _ _ g2, g3, hl, fun H4 e4 => q H4 ((e2.trans e3).trans e4)⟩

/-! ### the first bit that is 1 -/
def lead : List Bool → Option Nat
  | [] => none
  | true :: _ => some 0
  | false :: r => (lead r).map (· + 1)
theorem lead_of : ∀ (l : List Bool) (z : Nat), (∀ i, i < z → l[i]? = some false) → l[z]? = some true → lead l = some z
  | [], z, _, h => by simp at h
  | true :: r, 0, _, _ => rfl
  | true :: r, z + 1, h, _ => by have := h 0 (by omega); simp at this
  | false :: r, 0, _, h => by simp at h
  | false :: r, z + 1, h, h2 => by
    show (lead r).map (· + 1) = _
    rw [lead_of r z (fun i hi => by have := h (i + 1) (by omega); simpa using this) (by simpa using h2)]
    rfl
theorem lead_no : ∀ (l : List Bool), (∀ i, i < l.length → l[i]? = some false) → lead l = none
  | [], _ => rfl
  | true :: r, h => by have := h 0 (by simp); simp at this
  | false :: r, h => by
    show (lead r).map (· + 1) = _
    rw [lead_no r fun i hi => by have := h (i + 1) (by simp; omega); simpa using this]
    rfl
theorem lead_some : ∀ (l : List Bool) (z : Nat), lead l = some z → (∀ i, i < z → l[i]? = some false) ∧ l[z]? = some true
  | [], z, h => by cases h
  | true :: r, z, h => by
    have h : some 0 = some z := h
    cases h
    exact ⟨fun i hi => by omega, rfl⟩
  | false :: r, z, h => by
    have h : (lead r).map (· + 1) = some z := h
    obtain ⟨y, hy, rfl⟩ := Option.map_eq_some_iff.mp h
    obtain ⟨h1, h2⟩ := lead_some r y hy
    refine ⟨fun i hi => ?_, by simpa using h2⟩
    match i with
    | 0 => rfl
    | i + 1 => simpa using h1 i (by omega)
theorem lead_none : ∀ (l : List Bool), lead l = none → ∀ i : Nat, l[i]? ≠ some true
  | [], _, i => by simp
  | true :: r, h, i => by cases h
  | false :: r, h, i => by
    have h : (lead r).map (· + 1) = none := h
    have h := Option.map_eq_none_iff.mp h
    match i with
    | 0 => simp
    | i + 1 => simpa using lead_none r h i
theorem lead_run {B : List Bool} {p z : Nat} (h : lead (B.drop p) = some z) : zrun B p z := by
  obtain ⟨h1, h2⟩ := lead_some _ _ h
  exact ⟨fun i hi => by rw [← List.getElem?_drop]; exact h1 i hi, by rw [← List.getElem?_drop]; exact h2⟩
theorem lead_stop {B : List Bool} {p : Nat} (h : lead (B.drop p) = none) : ∀ i : Nat, B[p + i]? ≠ some true := fun i => by
  rw [← List.getElem?_drop]
  exact lead_none _ h i
theorem valL_lt : ∀ l : List Bool, valL l < 2 ^ l.length := fun l => by
  have key : ∀ (l : List Bool) (a n : Nat), a < 2 ^ n → l.foldl (fun a b => 2 * a + b.toNat) a < 2 ^ (n + l.length) := by
    intro l
    induction l with
    | nil => exact fun a n h => h
    | cons b r ih =>
      intro a n h
      show r.foldl _ (2 * a + b.toNat) < _
      rw [List.length_cons, show n + (r.length + 1) = (n + 1) + r.length by omega]
      refine ih _ _ ?_
      rw [Nat.pow_succ]
      cases b <;> simp <;> omega
  have := key l 0 0 (by decide)
  rwa [Nat.zero_add] at this
theorem valL_cons (b : Bool) (r : List Bool) : valL (b :: r) = b.toNat * 2 ^ r.length + valL r := by
  have key : ∀ (l : List Bool) (a : Nat), l.foldl (fun a b => 2 * a + b.toNat) a = a * 2 ^ l.length + valL l := by
    intro l
    induction l with
    | nil => intro a; show a = a * 1 + 0; omega
    | cons c t ih =>
      intro a
      show t.foldl _ (2 * a + c.toNat) = a * 2 ^ (t.length + 1) + t.foldl (fun a b => 2 * a + b.toNat) (2 * 0 + c.toNat)
      rw [ih, ih (2 * 0 + c.toNat), Nat.pow_succ, Nat.add_mul, Nat.add_mul, Nat.mul_zero, Nat.zero_mul, Nat.mul_comm 2 a, Nat.mul_assoc, Nat.mul_comm 2]
      omega
  show r.foldl _ (2 * 0 + b.toNat) = _
  rw [key, Nat.mul_zero, Nat.zero_add]
theorem sgN_top {l : List Bool} {w : Nat} (hl : l.length = w) (hw : 1 ≤ w) : sgN w (valL l) = if l[0]? = some true then (valL l : Int) - (2 ^ w : Nat) else (valL l : Int) := by
  match l, hl with
  | [], hl => simp at hl; omega
  | b :: r, hl =>
    rw [List.length_cons] at hl
    have h1 := valL_lt r
    have h2 := valL_cons b r
    have h3 : 2 ^ w = 2 * 2 ^ r.length := by rw [← hl, Nat.pow_succ, Nat.mul_comm]
    unfold sgN
    cases b with
    | true =>
      have h2 : valL (true :: r) = 1 * 2 ^ r.length + valL r := h2
      rw [if_neg (by omega), if_pos (show (true :: r)[0]? = some true from rfl)]
    | false =>
      have h2 : valL (false :: r) = 0 * 2 ^ r.length + valL r := h2
      rw [if_pos (by omega), if_neg (by simp)]

/-! ### what is due, what is told -/
def dueF (B : List Bool) (p kind w : Nat) : Option ((Int ⊕ List Nat) × Nat) :=
  if kind = 2 then (lead (B.drop p)).map fun z : Nat => (.inl (z : Int), p + z + 1)
  else if kind = 3 then (if p + 8 * w ≤ B.length then some (.inr ((List.range w).map fun i => valL ((B.drop (p + 8 * i)).take 8)), p + 8 * w) else none)
  else if p + w ≤ B.length then some (.inl (if kind = 1 then sgN w (valL ((B.drop p).take w)) else (valL ((B.drop p).take w) : Int)), p + w) else none
def Told (H : Hp) : Option ((Int ⊕ List Nat) × Nat) → V → Prop
  | none, x => x = .non
  | some (.inl n, e), x => ∃ t, x = .ref t ∧ H t = some (.tup [.int n, .int (e : Int)])
  | some (.inr bs, e), x => ∃ t p, x = .ref t ∧ H t = some (.tup [.ref p, .int (e : Int)]) ∧ H p = some (.lst ((cs bs).map V.int)) ∧ bs.length ≤ 64
def Said (H : Hp) (size : Nat) : Option ((Int ⊕ List Nat) × Nat) → V → Prop
  | none, x => ∃ t, x = .ref t ∧ H t = some (.tup [.str "error", .bl true, .int (size : Int)])
  | some (.inl n, _), x => ∃ t, x = .ref t ∧ H t = some (.tup [.str "value", .int n])
  | some (.inr bs, _), x => ∃ t p, x = .ref t ∧ H t = some (.tup [.str "value", .ref p]) ∧ H p = some (.lst ((cs bs).map V.int))
def posOf (p : Nat) : Option ((Int ⊕ List Nat) × Nat) → Nat
  | none => p
  | some (_, e) => e
theorem posOf_le {B : List Bool} {p kind w : Nat} (hp : p ≤ B.length) : posOf p (dueF B p kind w) ≤ B.length := by
  unfold dueF
  split
  · cases h : lead (B.drop p) with
    | none => exact hp
    | some z =>
      obtain ⟨_, h2⟩ := lead_run h
      have := (List.getElem?_eq_some_iff.mp h2).1
      show p + z + 1 ≤ _
      omega
  · split
    · split
      · assumption
      · exact hp
    · split
      · assumption
      · exact hp
theorem Told.ex {H H' : Hp} {v : Option ((Int ⊕ List Nat) × Nat)} {x : V} (e : Ex H H') (h : Told H v x) : Told H' v x := by
  match v with
  | none => exact h
  | some (.inl n, k) => obtain ⟨t, h1, h2⟩ := h; exact ⟨t, h1, e _ _ h2⟩
  | some (.inr bs, k) => obtain ⟨t, p, h1, h2, h3, h4⟩ := h; exact ⟨t, p, h1, e _ _ h2, e _ _ h3, h4⟩
def sp_allbits : Sp := fun vs H Q _ => ∃ (d : Addr) (ds : List Nat), vs = [.ref d] ∧ H d = some (.lst ((cs ds).map V.int)) ∧ ds.length ≤ 1000 ∧ RetL ((bI (ds.flatMap bits8)).map V.int) H Q
theorem ok_law_all_bits (T : TX K mg) : FnOk P w K mg base CX0 1 T.a_law_all_bits T.d_law_all_bits ["data"] sp_allbits := by
  refine T.F_law_all_bits.ok sc_law_all_bits (fun vs H Q E h => by obtain ⟨d, ds, rfl, _⟩ := h; rfl) (fun cdv A outer s H vs Q E hr h => ?_)
  obtain ⟨d, ds, rfl, hd, hl, k⟩ := h
  refine ⟨_, (pss_cons (ps_set (i := 1) sc_law_all_bits.nd rfl (Or.inl rfl) (pe_lst pa_nil))
      (pss_cons (ps_for PassesOwn.never rfl (pi_list (pv 0)) (pg_name (i := 2) sc_law_all_bits.nd rfl (Or.inl rfl)) (pss_one (ps_for PassesOwn.never rfl (pi_range1 (by rfl) T.m_range (pa_cons pe_int pa_nil)) (pg_name (i := 3) sc_law_all_bits.nd rfl (Or.inl rfl)) (pss_one (ps_expr (pe_bm PySem.F.plainAttrs_list PySem.F.slot_list_append PySem.F.type_list_append mt_append (pv 1) (pa_cons (pe_op op_and (pe_op op_shr (pv 2) (pe_op op_sub pe_int (pv 3))) pe_int) pa_nil)))))))
      (pss_one (ps_ret (pv 1))))), ?_⟩
  refine q_asgL (xs := []) (el_lst ea_nil (by decide)) fun p H1 hp e1 g1 => ?_
  have ndp : d ≠ p := fresh_ne hp hd
  refine q_forLn (K := K) (a := d) (ev_var rfl) (sq_of (e1 _ _ hd)) (fun i σ' H' => ∃ (z2 z3 : Option V), σ' = [some (.ref d), some (.ref p), z2, z3] ∧ Ex H H' ∧ H' d = some (.lst ((cs ds).map V.int)) ∧ H' p = some (.lst ((bI ((ds.take i).flatMap bits8)).map V.int)))
    (fun H2 e2 => ⟨none, none, rfl, e1.trans e2, e2 _ _ (e1 _ _ hd), e2 _ _ g1⟩) (fun i σ' H' _ h => by obtain ⟨_, _, _, _, hs', _⟩ := h; exact sq_of hs') ?_ ?_
  · rintro i x σ' H2 hx ⟨z2, z3, rfl, ex, gd, gp⟩
    obtain ⟨n2, hn2, hi, rfl⟩ := int_at hx
    rw [cs_len] at hi
    have hd2 : ds[i]? = some ds[i] := List.getElem?_eq_getElem hi
    have hn3 := cs_at hd2
    rw [hn2] at hn3
    have hn3 := Option.some.inj hn3
    rw [show ds.take (i + 1) = ds.take i ++ [ds[i]] from by rw [List.take_add_one, hd2]; rfl, List.flatMap_append, List.flatMap_cons, List.flatMap_nil, List.append_nil]
    have hpl : ((ds.take i).flatMap bits8).length ≤ 8000 := by rw [bits_flat_len, List.length_take]; omega
    generalize ds[i] = b at *
    generalize (ds.take i).flatMap bits8 = ms at *
    subst hn3
    refine s_forR1 (n := 8) (ea_cons ev_c ea_nil) (by decide) (fun j σ' H' => ∃ (z3 : Option V), σ' = [some (.ref d), some (.ref p), some (.int (b : Int)), z3] ∧ Ex H H' ∧ H' d = some (.lst ((cs ds).map V.int)) ∧ H' p = some (.lst ((bI (ms ++ (bits8 b).take j)).map V.int))) (fun H3 e3 => ⟨z3, rfl, ex.trans e3, e3 _ _ gd, by rw [List.take_zero, List.append_nil]; exact e3 _ _ gp⟩) ?_ ?_
    · rintro j σ' H3 hj ⟨z3, rfl, ex3, gd3, gp3⟩
      have hbj : (bits8 b)[j]? = some (b.testBit (7 - j)) := by rw [bits8_N, bitsN_at (by omega)]
      refine s_app (v := .int (b2 (b.testBit (7 - j)))) gp3 (ev_var rfl) (ev_bit (n := b) (i := 7 - j) (ev_var rfl) (ev_I0 ev_c (ev_var rfl)) (by omega)) (by rw [List.length_map, bI_len, List.length_append, List.length_take]; omega) fun H4 e4 => ?_
      refine ⟨_, rfl, Ex.mut (ex3.trans e4) (by cases h : H p with | none => rfl | some o => rw [h] at hp; cases hp), by rw [upd_ne ndp]; exact e4 _ _ gd3, ?_⟩
      rw [upd_same, List.take_add_one, hbj, ← List.append_assoc, bI_append (ms ++ _), List.map_append]
      rfl
    · rintro σ' H3 ⟨z3, rfl, ex3, gd3, gp3⟩
      exact ⟨_, _, rfl, ex3, gd3, by rw [List.take_of_length_le (by show 8 ≤ Int.toNat 8; decide)] at gp3; exact gp3⟩
  · rintro σ' H2 ⟨z2, z3, rfl, ex, gd, gp⟩
    rw [List.length_map, cs_len, List.take_length] at gp
    walk_at "ret"
    intro H3 e3
    exact k p H3 hp (ex.trans e3) (e3 _ _ gp)
def sp_number (K : PySem.W.Frag) : Sp := fun vs H Q _ => ∃ (a : Addr) (ms : List Bool), vs = [.ref a] ∧ SqL K H a ((bI ms).map V.int) ∧ ms.length ≤ 1000 ∧ RetV (.int (valL ms : Nat)) H Q
theorem ok_law_number (T : TX K mg) : FnOk P w K mg base CX0 1 T.a_law_number T.d_law_number ["bits"] (sp_number K) := by
  refine T.F_law_number.ok sc_law_number (fun vs H Q E h => by obtain ⟨d, ds, rfl, _⟩ := h; rfl) (fun cdv A outer s H vs Q E hr h => ?_)
  obtain ⟨a, ms, rfl, ha, hl, k⟩ := h
  refine ⟨_, (pss_cons (ps_set (i := 1) sc_law_number.nd rfl (Or.inl rfl) pe_int)
      (pss_cons (ps_for PassesOwn.never rfl (pi_list (pv 0)) (pg_name (i := 2) sc_law_number.nd rfl (Or.inl rfl)) (pss_one (ps_set (i := 1) sc_law_number.nd rfl (Or.inl rfl) (pe_op op_add (pe_op op_mul pe_int (pv 1)) (pv 2)))))
      (pss_one (ps_ret (pv 1))))), ?_⟩
  walk_at "asg"
  intro H1 e1
  refine q_forLn (K := K) (a := a) (ev_var rfl) (ex_l e1 ha) (fun i σ' H' => ∃ (z2 : Option V), σ' = [some (.ref a), some (.int (valL (ms.take i) : Nat)), z2] ∧ Ex H H') (fun H2 e2 => ⟨none, rfl, e1.trans e2⟩) (fun i σ' H' _ h => by obtain ⟨_, _, e⟩ := h; exact ex_l e ha) ?_ ?_
  · rintro i x σ' H2 hx ⟨z2, rfl, ex⟩
    obtain ⟨n2, hn2, hi, rfl⟩ := int_at hx
    rw [bI_len] at hi
    have hd2 : ms[i]? = some ms[i] := List.getElem?_eq_getElem hi
    have hn3 := bI_at hd2
    rw [hn2] at hn3
    have hn3 := Option.some.inj hn3
    rw [show ms.take (i + 1) = ms.take i ++ [ms[i]] from by rw [List.take_add_one, hd2]; rfl, valL_snoc]
    generalize ms[i] = b at *
    generalize valL (ms.take i) = v
    subst hn3
    exact s_asg (Ev.is (ev_I0 (ev_I ev_c (ev_var rfl) (.inl (by decide))) (ev_var rfl)) (congrArg V.int (a₂ := ((2 * v + b.toNat : Nat) : Int)) (by rw [b2_nat]; omega))) fun H3 e3 => ⟨_, rfl, ex.trans e3⟩
  · rintro σ' H2 ⟨z2, rfl, ex⟩
    rw [List.length_map, bI_len, List.take_length]
    walk_at "ret"
    intro H3 e3
    exact k H3 (ex.trans e3)
theorem ev_number {σ : L2.St} {H : Hp} {te : TE} {E : XK} {ms : List Bool} (h : EvS K te σ H ((bI ms).map V.int)) (hl : ms.length ≤ 1000) : Ev (tCall (sp_number K) [] E (tCons te tNil)) σ H (.int (valL ms : Nat)) := fun H1 e Q q =>
  h H1 e _ fun p H2 e2 hp => ⟨p, ms, rfl, hp, hl, fun H3 e3 => q H3 (e2.trans e3)⟩
theorem bI_take (ms : List Bool) (i : Nat) : (bI ms).take i = bI (ms.take i) := by unfold bI; rw [List.map_take]
theorem bI_drop (ms : List Bool) (i : Nat) : (bI ms).drop i = bI (ms.drop i) := by unfold bI; rw [List.map_drop]

def sp_due (K : PySem.W.Frag) : Sp := fun vs H Q _ => ∃ (b : Addr) (B : List Bool) (p kind wd : Nat), vs = [.ref b, .int (p : Int), .int (kind : Int), .int (wd : Int)] ∧ H b = some (.lst ((bI B).map V.int)) ∧ B.length ≤ 2000 ∧ p ≤ B.length ∧ kind < 4 ∧ wd ≤ 64 ∧ (kind = 1 → 1 ≤ wd) ∧
  ∀ x H', Ex H H' → Told H' (dueF B p kind wd) x → Q x H'
theorem ok_law_due (T : TX K mg) : FnOk P w K mg base CX0 2 T.a_law_due T.d_law_due ["bits", "at", "kind", "width"] (sp_due K) := by
  refine T.F_law_due.ok sc_law_due (fun vs H Q E h => by obtain ⟨b, B, p, kind, wd, rfl, _⟩ := h; rfl) (fun cdv A outer s H vs Q E hr h => ?_)
  obtain ⟨b, B, p, kind, wd, rfl, hb, hl, hp, hk4, hw, hw1, k⟩ := h
  refine ⟨_, (pss_cons (ps_if (pt_cmpR op_eq (pv 2) pe_int (nomark _)) (pss_cons (ps_set (i := 4) sc_law_due.nd rfl (Or.inl rfl) (pv 1))
        (pss_cut (ps_for PassesOwn.never rfl (pi_range1 (by rfl) T.m_range (pa_cons (pe_callB (r := rLenS K) call_len_seq (by rfl) T.m_len PySem.boot_len (pa_cons (pv 0) pa_nil)) pa_nil)) (pg_name (i := 5) sc_law_due.nd rfl (Or.inl rfl)) (pss_cons (ps_if (PW.pt (pw_or (pt_cmpR op_ge (pv 4) (pe_callB (r := rLenS K) call_len_seq (by rfl) T.m_len PySem.boot_len (pa_cons (pv 0) pa_nil)) (nomark _)) (pw_or1 (pt_cmpR op_eq (pe_ix (r := rIxL K) ix_list (pv 0) (pv 4) (fun _ _ => rfl)) pe_int (nomark _))))) (pss_one ps_break) pss_nil)
          (pss_one (ps_set (i := 4) sc_law_due.nd rfl (Or.inl rfl) (pe_op op_add (pv 4) pe_int)))))
        (pss_cons (ps_if (pt_cmpR op_ge (pv 4) (pe_callB (r := rLenS K) call_len_seq (by rfl) T.m_len PySem.boot_len (pa_cons (pv 0) pa_nil)) (nomark _)) (pss_one (ps_ret pe_non)) pss_nil)
        (pss_one (ps_ret (pe_tup (pa_cons (pe_op op_sub (pv 4) (pv 1)) (pa_cons (pe_op op_add (pv 4) pe_int) pa_nil)))))))) pss_nil)
      (pss_cons (ps_if (pt_cmpR op_eq (pv 2) pe_int (nomark _)) (pss_cons (ps_if (pt_cmpR op_gt (pe_op op_add (pv 1) (pe_op op_mul pe_int (pv 3))) (pe_callB (r := rLenS K) call_len_seq (by rfl) T.m_len PySem.boot_len (pa_cons (pv 0) pa_nil)) (nomark _)) (pss_one (ps_ret pe_non)) pss_nil)
        (pss_cons (ps_setLc (i := 6) (own := [("k", 5)]) (g := gName 5) (tt := tYes) rfl sc_law_due.nd rfl rfl (sw_true rfl rfl rfl (by decide +kernel)) (pi_range1 (by rfl) T.m_range (pa_cons (pv 3) pa_nil)) (blkOk_by (N := ["bits", "at", "kind", "width", "end", "k", "row", "value"]) (sc := defScope s_law_due) (by decide +kernel)) (fun _ _ _ _ _ => pg_name (i := 5) sc_law_due.nd rfl (Or.inl rfl)) (fun _ _ _ _ _ => pts_nil) (fun _ _ _ _ _ => (pe_call (ok_law_number T) (hr.mono (by decide)) (by rfl) T.g_law_number T.F_law_number.kp T.b_law_number .nil pass0 (pa_cons (pe_slice (r := rSlL K) sl_list (pv 0) (po_some (pe_op op_add (pv 1) (pe_op op_mul pe_int (pv 5)))) (po_some (pe_op op_add (pe_op op_add (pv 1) (pe_op op_mul pe_int (pv 5))) pe_int))) pa_nil))))
        (pss_one (ps_ret (pe_tup (pa_cons (pv 6) (pa_cons (pe_op op_add (pv 1) (pe_op op_mul pe_int (pe_callB (r := rLenS K) call_len_seq (by rfl) T.m_len PySem.boot_len (pa_cons (pv 6) pa_nil)))) pa_nil))))))) pss_nil)
      (pss_cons (ps_if (pt_cmpR op_gt (pe_op op_add (pv 1) (pv 3)) (pe_callB (r := rLenS K) call_len_seq (by rfl) T.m_len PySem.boot_len (pa_cons (pv 0) pa_nil)) (nomark _)) (pss_one (ps_ret pe_non)) pss_nil)
      (pss_cons (ps_set (i := 7) sc_law_due.nd rfl (Or.inl rfl) (pe_call (ok_law_number T) (hr.mono (by decide)) (by rfl) T.g_law_number T.F_law_number.kp T.b_law_number .nil pass0 (pa_cons (pe_slice (r := rSlL K) sl_list (pv 0) (po_some (pv 1)) (po_some (pe_op op_add (pv 1) (pv 3)))) pa_nil)))
      (pss_cons (ps_if (PW.pt (pw_and (pt_cmpR op_eq (pv 2) pe_int (nomark _)) (pw_and1 (pt_cmpR op_eq (pe_ix (r := rIxL K) ix_list (pv 0) (pv 1) (fun _ _ => rfl)) pe_int (nomark _))))) (pss_one (ps_set (i := 7) sc_law_due.nd rfl (Or.inl rfl) (pe_op op_sub (pv 7) (pe_op op_shl pe_int (pv 3))))) pss_nil)
      (pss_one (ps_ret (pe_tup (pa_cons (pv 7) (pa_cons (pe_op op_add (pv 1) (pv 3)) pa_nil)))))))))), ?_⟩
  have hlv : ∀ {σ : L2.St} {H1 : Hp} {te : TE}, Ex H H1 → Ev te σ H1 (.ref b) → Ev (tCB (rLenS K) (tCons te tNil)) σ H1 (.int (B.length : Int)) := fun e h => Ev.is (ev_lenS (Ev.s h (sq_of (e _ _ hb)))) (by rw [List.length_map, bI_len])
  have keq : ∀ {σ : L2.St} {H1 : Hp} (c : Nat), σ[2]? = some (some (.int (kind : Int))) → EvT (tTest (tOp rEq (tVar 2) (tC (.int (c : Int))))) σ H1 (decide (kind = c)) := fun c hs => et_test (Ev.is (ev_eq (ev_var hs) ev_c rfl) (congrArg V.bl (decide_eq_decide.mpr ⟨fun h => by have := V.int.inj h; omega, fun h => by rw [h]⟩)))
  refine q_when (b := decide (kind = 2)) (keq 2 rfl) (fun h2 H1 e1 => ?_) (fun h2 H1 e1 => ?_)
  · have h2 := of_decide_eq_true h2
    subst h2
    walk_at "asg"
    intro H2 e2
    have ex2 := e1.trans e2
    refine q_cut (M := fun σ' H' => ∃ (e : Nat) (z5 : Option V), σ' = [some (.ref b), some (.int (p : Int)), some (.int (2 : Int)), some (.int (wd : Int)), some (.int (e : Int)), z5, none, none] ∧ Ex H H' ∧ p ≤ e ∧ e ≤ B.length ∧ (∀ j, p + j < e → B[p + j]? = some false) ∧ (e = B.length ∨ B[e]? = some true)) ?_ ?_
    · refine s_forR1 (n := (B.length : Int)) (ea_cons (hlv ex2 (ev_var rfl)) ea_nil) (by omega) (fun i σ' H' => ∃ (z5 : Option V), σ' = [some (.ref b), some (.int (p : Int)), some (.int (2 : Int)), some (.int (wd : Int)), some (.int ((p + i : Nat) : Int)), z5, none, none] ∧ Ex H H' ∧ p + i ≤ B.length ∧ (∀ j, j < i → B[p + j]? = some false)) (fun H3 e3 => ⟨none, rfl, ex2.trans e3, hp, fun j hj => by omega⟩) ?_ ?_
      · rintro i σ' H3 hi ⟨z5, rfl, ex, hpi, hf⟩
        by_cases hend : B.length ≤ p + i
        · refine q_when (b := true) (et_or (a := true) (b := true) (et_test (Ev.is (ev_I0 (ev_var rfl) (hlv ex (ev_var rfl))) (congrArg V.bl (decide_eq_true (by show (B.length : Int) ≤ ((p + i : Nat) : Int); omega))))) (fun h => by cases h)) (fun _ H4 e4 => ?_) (fun h => by cases h)
          exact ⟨p + i, _, rfl, ex.trans e4, by omega, hpi, fun j hj => hf j (by omega), .inl (by omega)⟩
        · have hat : B[p + i]? = some B[p + i] := List.getElem?_eq_getElem (by omega)
          refine q_when (b := B[p + i]) (et_is (et_or (a := false) (b := B[p + i]) (et_test (Ev.is (ev_I0 (ev_var rfl) (hlv ex (ev_var rfl))) (congrArg V.bl (decide_eq_false (by show ¬ (B.length : Int) ≤ ((p + i : Nat) : Int); omega))))) (fun _ => et_test (Ev.is (ev_eq (ev_at (Ev.s (ev_var rfl) (sq_of (ex _ _ hb))) (ev_var rfl) (at_of rfl (at_int (bI_at hat)))) ev_c rfl) (congrArg V.bl (by cases B[p + i] <;> rfl))))) (Bool.false_or _)) (fun h H4 e4 => ?_) (fun h H4 e4 => ?_)
          · exact ⟨p + i, _, rfl, ex.trans e4, by omega, hpi, fun j hj => hf j (by omega), .inr (by rw [hat, h])⟩
          · refine s_asg (v := .int ((p + (i + 1) : Nat) : Int)) (Ev.is (ev_I0 (ev_var rfl) ev_c) (congrArg V.int (by omega))) fun H5 e5 => ?_
            refine ⟨_, rfl, (ex.trans e4).trans e5, by omega, fun j hj => ?_⟩
            by_cases hji : j < i
            · exact hf j hji
            · rw [show j = i by omega, hat, h]
      · rintro σ' H3 ⟨z5, rfl, ex, hpi, hf⟩
        rw [Int.toNat_natCast] at hpi hf
        exact ⟨p + B.length, _, by rw [Int.toNat_natCast], ex, by omega, hpi, fun j hj => hf j (by omega), .inl (by omega)⟩
    · rintro σ' H3 ⟨e, z5, rfl, ex, hpe, hel, hf, hor⟩
      have hdue : dueF B p 2 wd = (lead (B.drop p)).map fun z : Nat => (.inl (z : Int), p + z + 1) := by unfold dueF; rw [if_pos rfl]
      refine q_when (b := decide (e = B.length)) (et_test (Ev.is (ev_I0 (ev_var rfl) (hlv ex (ev_var rfl))) (congrArg V.bl (decide_eq_decide.mpr (by show (B.length : Int) ≤ (e : Int) ↔ _; omega))))) (fun h H4 e4 => ?_) (fun h H4 e4 => ?_)
      · have h := of_decide_eq_true h
        have hn : lead (B.drop p) = none := lead_no _ fun i hi => by
          rw [List.length_drop] at hi
          rw [List.getElem?_drop]
          exact hf i (by omega)
        rw [hdue, hn] at k
        walk_at "ret"
        intro H5 e5
        exact k .non H5 ((ex.trans e4).trans e5) rfl
      · have h := of_decide_eq_false h
        have ht := hor.resolve_left h
        have hn : lead (B.drop p) = some (e - p) := lead_of _ _ (fun i hi => by rw [List.getElem?_drop]; exact hf i (by omega)) (by rw [List.getElem?_drop, show p + (e - p) = e by omega]; exact ht)
        rw [hdue, hn] at k
        refine s_retU (xs := [.int ((e - p : Nat) : Int), .int ((p + (e - p) + 1 : Nat) : Int)]) (eu_tup (ea_cons (Ev.is (ev_I0 (ev_var rfl) (ev_var rfl)) (congrArg V.int (by omega))) (ea_cons (Ev.is (ev_I0 (ev_var rfl) ev_c) (congrArg V.int (by omega))) ea_nil)) (Nat.le_of_ble_eq_true rfl)) fun t H5 ht5 e5 g5 => ?_
        exact k (.ref t) H5 ((ex.trans e4).trans e5) ⟨t, rfl, g5⟩
  have h2 := of_decide_eq_false h2
  refine q_when (b := decide (kind = 3)) (keq 3 rfl) (fun h3 H2 e2 => ?_) (fun h3 H2 e2 => ?_)
  · have h3 := of_decide_eq_true h3
    subst h3
    have ex2 := e1.trans e2
    have hdue : dueF B p 3 wd = if p + 8 * wd ≤ B.length then some (.inr ((List.range wd).map fun i => valL ((B.drop (p + 8 * i)).take 8)), p + 8 * wd) else none := by unfold dueF; rw [if_neg (by decide), if_pos rfl]
    refine q_when (b := decide (B.length < p + 8 * wd)) (et_test (Ev.is (ev_I0 (ev_I0 (ev_var rfl) (ev_I ev_c (ev_var rfl) (.inl (by decide)))) (hlv ex2 (ev_var rfl))) (congrArg V.bl (decide_eq_decide.mpr (by show (_ : Int) < _ ↔ _; omega))))) (fun h H3 e3 => ?_) (fun h H3 e3 => ?_)
    · have h := of_decide_eq_true h
      rw [hdue, if_neg (by omega)] at k
      walk_at "ret"
      intro H5 e5
      exact k .non H5 ((ex2.trans e3).trans e5) rfl
    · have h := of_decide_eq_false h
      have ex3 := ex2.trans e3
      rw [hdue, if_pos (by omega)] at k
      refine q_asgL (xs := (cs ((List.range wd).map fun i => valL ((B.drop (p + 8 * i)).take 8))).map V.int) (el_lcR (n := (wd : Int)) _ (ea_cons (ev_var rfl) ea_nil) (by omega) (by rw [List.length_map, cs_len, List.length_map, List.length_range]; omega) (by rw [List.length_map, cs_len, List.length_map, List.length_range]; omega) (fun _ => rfl) fun i H4 e4 hi => ?_) fun q H4 hq e4 g4 => ?_
      · rw [List.length_map, cs_len, List.length_map, List.length_range] at hi
        refine ⟨_, at_int (cs_at (d := valL ((B.drop (p + 8 * i)).take 8)) (by rw [List.getElem?_map, List.getElem?_range hi]; rfl)), ?_⟩
        refine ev_number (EvR.s (EvL.r (EvL.is (el_mid (ns := bI B) (i := p + 8 * i) (j := p + 8 * i + 8) (Ev.s (ev_var rfl) (sq_of ((ex3.trans e4) _ _ hb))) (Ev.is (ev_I0 (ev_var rfl) (ev_I ev_c (ev_var rfl) (.inl (by decide)))) (congrArg V.int (by omega))) (Ev.is (ev_I0 (ev_I0 (ev_var rfl) (ev_I ev_c (ev_var rfl) (.inl (by decide)))) ev_c) (congrArg V.int (by omega)))) ?_))) ?_
        · rw [bI_drop, bI_take, show p + 8 * i + 8 - (p + 8 * i) = 8 by omega]
        · rw [List.length_take]; omega
      · refine s_retU (xs := [.ref q, .int ((p + 8 * wd : Nat) : Int)]) (eu_tup (ea_cons (ev_var rfl) (ea_cons (Ev.is (ev_I0 (ev_var rfl) (ev_I ev_c (Ev.is (ev_lenS (Ev.s (ev_var rfl) (sq_of g4))) (by rw [List.length_map, cs_len, List.length_map, List.length_range])) (.inl (by decide)))) (congrArg V.int (by omega))) ea_nil)) (Nat.le_of_ble_eq_true rfl)) fun t H5 ht5 e5 g5 => ?_
        exact k (.ref t) H5 ((ex3.trans e4).trans e5) ⟨t, q, rfl, g5, e5 _ _ g4, by rw [List.length_map, List.length_range]; exact hw⟩
  have h3 := of_decide_eq_false h3
  have ex2 := e1.trans e2
  have hdue : dueF B p kind wd = if p + wd ≤ B.length then some (.inl (if kind = 1 then sgN wd (valL ((B.drop p).take wd)) else (valL ((B.drop p).take wd) : Int)), p + wd) else none := by unfold dueF; rw [if_neg h2, if_neg h3]
  refine q_when (b := decide (B.length < p + wd)) (et_test (Ev.is (ev_I0 (ev_I0 (ev_var rfl) (ev_var rfl)) (hlv ex2 (ev_var rfl))) (congrArg V.bl (decide_eq_decide.mpr (by show (_ : Int) < _ ↔ _; omega))))) (fun h H3 e3 => ?_) (fun h H3 e3 => ?_)
  · have h := of_decide_eq_true h
    rw [hdue, if_neg (by omega)] at k
    walk_at "ret"
    intro H5 e5
    exact k .non H5 ((ex2.trans e3).trans e5) rfl
  have h := of_decide_eq_false h
  have ex3 := ex2.trans e3
  rw [hdue, if_pos (by omega)] at k
  refine q_asg (ev_number (ms := (B.drop p).take wd) (EvR.s (EvL.r (EvL.is (el_mid (ns := bI B) (i := p) (j := p + wd) (Ev.s (ev_var rfl) (sq_of (ex3 _ _ hb))) (ev_var rfl) (Ev.is (ev_I0 (ev_var rfl) (ev_var rfl)) (congrArg V.int (by omega)))) (by rw [bI_drop, bI_take, show p + wd - p = wd by omega])))) (by rw [List.length_take]; omega)) fun H4 e4 => ?_
  have ex4 := ex3.trans e4
  obtain ⟨vv, hvv⟩ : ∃ vv, (if kind = 1 then sgN wd (valL ((B.drop p).take wd)) else (valL ((B.drop p).take wd) : Int)) = vv := ⟨_, rfl⟩
  rw [hvv] at k
  have fin : ∀ (σ' : L2.St) (H5 : Hp), Ex H H5 → σ'[7]? = some (some (.int vv)) → σ'[1]? = some (some (.int (p : Int))) → σ'[3]? = some (some (.int (wd : Int))) → tRet (tTup (tCons (tVar 7) (tCons (tOp (rI0 fun i j => .int (i + j)) (tVar 1) (tVar 3)) tNil))) { nx := fun _ H' => Q .non H', rt := Q } σ' H5 := fun σ' H5 ex5 h7 h1 h3' =>
    s_retU (xs := [.int vv, .int ((p + wd : Nat) : Int)]) (eu_tup (ea_cons (ev_var h7) (ea_cons (Ev.is (ev_I0 (ev_var h1) (ev_var h3')) (congrArg V.int (by omega))) ea_nil)) (Nat.le_of_ble_eq_true rfl)) fun t H6 ht6 e6 g6 => k (.ref t) H6 (ex5.trans e6) ⟨t, rfl, g6⟩
  by_cases hk1 : kind = 1
  · subst hk1
    rw [if_pos rfl] at hvv
    have hw1 := hw1 rfl
    have hat : B[p]? = some B[p] := List.getElem?_eq_getElem (by omega)
    have h0 : ((B.drop p).take wd)[0]? = B[p]? := by rw [List.getElem?_take, if_pos (by omega), List.getElem?_drop, Nat.add_zero]
    rw [sgN_top (by rw [List.length_take, List.length_drop]; omega) hw1, h0, hat] at hvv
    refine q_when (b := B[p]) (et_is (et_and (a := true) (b := B[p]) (et_test (Ev.is (ev_eq (ev_var rfl) ev_c rfl) rfl)) fun _ => et_test (Ev.is (ev_eq (ev_at (Ev.s (ev_var rfl) (sq_of (ex4 _ _ hb))) (ev_var rfl) (at_of rfl (at_int (bI_at hat)))) ev_c rfl) (congrArg V.bl (by cases B[p] <;> rfl)))) (Bool.true_and _)) (fun hbt H5 e5 => ?_) (fun hbt H5 e5 => ?_)
    · rw [hbt, if_pos rfl] at hvv
      refine s_asg (v := .int vv) (Ev.is (ev_I0 (ev_var rfl) (ev_I ev_c (ev_var rfl) (show CPow 1 (wd : Int) from ⟨by omega, by omega, by decide⟩))) (congrArg V.int (by rw [← hvv, Int.toNat_natCast, Int.one_mul, pow_cast]))) fun H6 e6 => ?_
      exact fin _ H6 ((ex4.trans e5).trans e6) rfl rfl rfl
    · rw [hbt, if_neg (by decide)] at hvv
      exact fin _ H5 (ex4.trans e5) (by rw [← hvv]; rfl) rfl rfl
  · rw [if_neg hk1] at hvv
    refine q_when (b := false) (et_and (a := false) (b := false) (et_test (Ev.is (ev_eq (ev_var rfl) ev_c rfl) (congrArg V.bl (decide_eq_false fun z => hk1 (by have := V.int.inj z; omega))))) (fun z => by cases z)) (fun z => by cases z) fun _ H5 e5 => ?_
    exact fin _ H5 (ex4.trans e5) (by rw [← hvv]; rfl) rfl rfl

def sp_datab : Sp := fun vs H Q _ => ∃ (c m : Int), vs = [.int c, .int m] ∧ ∀ (ds : List Nat) p H', H p = none → Ex H H' → H' p = some (.lst ((cs ds).map V.int)) → ds.length ≤ 200 → (∀ b ∈ ds, b < 256) → Q (.ref p) H'
theorem ok_law_data (T : TX K mg) : FnOk P w K mg base CX0 2 T.a_law_data T.d_law_data ["cell", "more"] sp_datab := by
  refine T.F_law_data.ok sc_law_data (fun vs H Q E h => by obtain ⟨c, m, rfl, _⟩ := h; rfl) (fun cdv A outer s H vs Q E hr h => ?_)
  obtain ⟨c, mo, rfl, k⟩ := h
  refine ⟨_, (pss_cons (ps_set (i := 2) sc_law_data.nd rfl (Or.inr rfl) (pe_call (ok_law_draw T) (hr.mono (by decide)) (by rfl) T.g_law_draw T.F_law_draw.kp T.b_law_draw .nil pass0 (pa_cons (pv 0) (pa_cons pe_int (pa_cons (pe_op op_shl pe_int pe_int) pa_nil)))))
      (pss_cons (ps_set (i := 3) sc_law_data.nd rfl (Or.inl rfl) (pe_op op_mod (pe_ix (r := rIxL K) ix_list (pv 2) pe_int (fun _ _ => rfl)) pe_int))
      (pss_cons (ps_if (pt_cmpR op_eq (pe_op op_mod (pe_op op_fdiv (pe_ix (r := rIxL K) ix_list (pv 2) pe_int (fun _ _ => rfl)) pe_int) pe_int) pe_int (nomark _)) (pss_one (ps_set (i := 3) sc_law_data.nd rfl (Or.inl rfl) (pe_op op_add pe_int (pe_op op_mod (pe_op op_fdiv (pe_ix (r := rIxL K) ix_list (pv 2) pe_int (fun _ _ => rfl)) pe_int) pe_int)))) pss_nil)
      (pss_cons (ps_set (i := 4) sc_law_data.nd rfl (Or.inr rfl) (pe_call (ok_law_draw T) (hr.mono (by decide)) (by rfl) T.g_law_draw T.F_law_draw.kp T.b_law_draw .nil pass0 (pa_cons (pv 1) (pa_cons (pv 3) (pa_cons pe_int pa_nil)))))
      (pss_cons (ps_if (pt_cmpR op_eq (pe_op op_mod (pe_ix (r := rIxL K) ix_list (pv 2) pe_int (fun _ _ => rfl)) pe_int) pe_int (nomark _)) (pss_one (ps_set (i := 4) sc_law_data.nd rfl (Or.inr rfl) (pe_lc (own := [("k", 5)]) (g := gName 5) (tt := tYes) rfl sc_law_data.nd (pi_range1 (by rfl) T.m_range (pa_cons (pe_callB (r := rLenS K) call_len_seq (by rfl) T.m_len PySem.boot_len (pa_cons (pv 4) pa_nil)) pa_nil)) (blkOk_by (N := ["cell", "more", "many", "size", "data", "k"]) (sc := defScope s_law_data) (by decide +kernel)) (fun _ _ _ _ _ => pg_name (i := 5) sc_law_data.nd rfl (Or.inl rfl)) (fun _ _ _ _ _ => pts_nil) (fun _ _ _ _ _ => (pe_op op_mul (pe_ix (r := rIxL K) ix_list (pv 4) (pv 5) (fun _ _ => rfl)) (pe_op op_fdiv (pe_op op_mod (pe_callTy call_int1 (by rfl) T.m_int PyProof.Rows.boot_int (pa_cons (pv 5) pa_nil)) (pe_op op_add pe_int (pe_op op_mod (pe_ix (r := rIxL K) ix_list (pv 2) pe_int (fun _ _ => rfl)) pe_int))) (pe_op op_add pe_int (pe_op op_mod (pe_ix (r := rIxL K) ix_list (pv 2) pe_int (fun _ _ => rfl)) pe_int)))))))) pss_nil)
      (pss_one (ps_ret (pv 4)))))))), ?_⟩
  refine q_asgC (vs := [.int c, .int 3, .int (1 * 2 ^ (20 : Int).toNat)]) (ea_cons (ev_var rfl) (ea_cons ev_c (ea_cons (ev_I ev_c ev_c ⟨by decide, by decide, by decide⟩) ea_nil))) fun H1 e1 => ⟨c, 3, _, rfl, by decide, by decide, by decide, by decide, fun p1 ns H2 hp1 e2 g2 hl hns => ?_⟩
  have h0 := gl_get (ns := ns) (i := 0) (by omega)
  have h1 := gl_get (ns := ns) (i := 1) (by omega)
  have h2 := gl_get (ns := ns) (i := 2) (by omega)
  have hix : ∀ {σ : L2.St} {H1 : Hp} {n : Int} (j : Nat), Ex H2 H1 → σ[2]? = some (some (.ref p1)) → ns[j]? = some n → Ev (tOp (rIxL K) (tVar 2) (tC (.int (j : Int)))) σ H1 (.int n) := fun j e hs hj => ev_at (Ev.s (ev_var hs) (sq_of (e _ _ g2))) ev_c (at_of rfl (at_int hj))
  refine q_asg (v := .int (ns.getD 0 0 % 61)) (ev_I (hix 0 (Ex.refl _) rfl h0) ev_c (by decide)) fun H3 e3 => ?_
  obtain ⟨sz, hsz⟩ : ∃ sz : Int, (if decide (V.int (ns.getD 0 0 / 61 % 8) = V.int 1) = true then 60 + ns.getD 0 0 / 488 % 90 else ns.getD 0 0 % 61) = sz := ⟨_, rfl⟩
  have hsz2 : 0 ≤ sz ∧ sz ≤ 150 := by rw [← hsz]; split <;> omega
  refine q_ifAsg (b := decide (V.int (ns.getD 0 0 / 61 % 8) = V.int 1)) (v := .int sz) (et_test (ev_eq (ev_I (ev_I (hix 0 e3 rfl h0) ev_c ⟨by decide, by decide⟩) ev_c (by decide)) ev_c rfl)) (fun hb => Ev.is (ev_I0 ev_c (ev_I (ev_I (hix 0 e3 rfl h0) ev_c ⟨by decide, by decide⟩) ev_c (by decide))) (by rw [← hsz, if_pos hb])) (fun hb => by rw [← hsz, if_neg (by rw [hb]; decide)]; rfl) fun H4 e4 => ?_
  obtain ⟨n, hn⟩ : ∃ n : Nat, sz = (n : Int) := ⟨sz.toNat, by omega⟩
  subst hn
  refine q_asgC (vs := [.int mo, .int (n : Int), .int 256]) (ea_cons (ev_var rfl) (ea_cons (ev_var rfl) (ea_cons ev_c ea_nil))) fun H5 e5 => ⟨mo, n, _, rfl, by omega, by omega, by decide, by decide, fun p2 ns2 H6 hp2 e6 g6 hl2 hns2 => ?_⟩
  obtain ⟨bs, rfl, hbl, hbb⟩ := cs_of hns2
  rw [cs_len] at hl2
  have ex6 := (((e1.trans e2).trans e3).trans e4).trans (e5.trans e6)
  have hp20 : H p2 = none := by cases h : H p2 with | none => rfl | some o => rw [((((e1.trans e2).trans e3).trans e4).trans e5) _ _ h] at hp2; cases hp2
  refine q_when (et_test (ev_eq (ev_I (hix 1 ((e3.trans e4).trans (e5.trans e6)) rfl h1) ev_c (by decide)) ev_c rfl)) (fun _ H7 e7 => ?_) (fun _ H7 e7 => ?_)
  · generalize hq : ns.getD 2 0 = q at h2
    have hfl : ∀ i : Nat, (i : Int) % (2 + q % 30) / (1 + q % 30) = 0 ∨ (i : Int) % (2 + q % 30) / (1 + q % 30) = 1 := fun i => by
      have hm := Int.emod_nonneg (i : Int) (show (2 + q % 30) ≠ 0 by omega)
      have hm2 := Int.emod_lt_of_pos (i : Int) (show 0 < 2 + q % 30 by omega)
      generalize (i : Int) % (2 + q % 30) = r at *
      by_cases h : r < 1 + q % 30
      · exact .inl (Int.ediv_eq_zero_of_lt hm h)
      · refine .inr ?_
        rw [show r = 1 + q % 30 by omega]
        exact Int.ediv_self (by omega)
    obtain ⟨es, hes⟩ : ∃ es : List Nat, es = (List.range n).map fun i => bs.getD i 0 * ((i : Int) % (2 + q % 30) / (1 + q % 30)).toNat := ⟨_, rfl⟩
    have hesl : es.length = n := by rw [hes, List.length_map, List.length_range]
    have heb : ∀ b ∈ es, b < 256 := fun b hb => by
      rw [hes] at hb
      obtain ⟨i, hi, rfl⟩ := List.mem_map.mp hb
      have hi := List.mem_range.mp hi
      have hlt : bs.getD i 0 < 256 := by
        rw [List.getD_eq_getElem?_getD, List.getElem?_eq_getElem (show i < bs.length by omega)]
        have := hbb _ (List.getElem_mem (show i < bs.length by omega))
        show bs[i] < 256
        omega
      rcases hfl i with h | h
      · rw [h]
        show bs.getD i 0 * 0 < 256
        omega
      · rw [h]
        show bs.getD i 0 * 1 < 256
        omega
    refine s_asgL (xs := (cs es).map V.int) (el_lcR (n := (n : Int)) _ (ea_cons (Ev.is (ev_lenS (Ev.s (ev_var rfl) (sq_of (e7 _ _ g6)))) (by rw [List.length_map, cs_len]; exact congrArg V.int hl2)) ea_nil) (by omega) (by rw [List.length_map, cs_len, hesl]; omega) (by rw [List.length_map, cs_len, hesl]; omega) (fun _ => rfl) fun i H8 e8 hi => ?_) fun p4 H8 hp4 e8 g8 => ?_
    · rw [List.length_map, cs_len, hesl] at hi
      have hat : bs[i]? = some (bs.getD i 0) := by rw [List.getD_eq_getElem?_getD, List.getElem?_eq_getElem (by omega)]; rfl
      have he : es[i]? = some (bs.getD i 0 * ((i : Int) % (2 + q % 30) / (1 + q % 30)).toNat) := by rw [hes, List.getElem?_map, List.getElem?_range hi]; rfl
      have hlt : bs.getD i 0 < 256 := by
        rw [List.getD_eq_getElem?_getD, List.getElem?_eq_getElem (show i < bs.length by omega)]
        have := hbb _ (List.getElem_mem (show i < bs.length by omega))
        show bs[i] < 256
        omega
      have ee := (e3.trans e4).trans ((e5.trans e6).trans (e7.trans e8))
      refine ⟨_, at_int (cs_at he), Ev.is (ev_I (ev_at (Ev.s (ev_var rfl) (sq_of ((e7.trans e8) _ _ g6))) (ev_var rfl) (at_of rfl (at_int (cs_at hat)))) (ev_I (j := 1 + q % 30) (ev_I (j := 2 + q % 30) (ev_int1 (ev_var rfl)) (ev_I0 ev_c (ev_I (hix 2 ee rfl h2) ev_c (by decide))) (by show (0 : Int) < _; omega)) (ev_I0 ev_c (ev_I (hix 2 ee rfl h2) ev_c (by decide))) ⟨by omega, by omega⟩) (.inl ?_)) (congrArg V.int ?_)⟩
      · omega
      · rw [Int.natCast_mul]
        congr 1
        rcases hfl i with h | h <;> rw [h] <;> rfl
    · refine s_ret (v := .ref p4) (ev_var rfl) fun H9 e9 => ?_
      exact k es p4 H9 (by cases h : H p4 with | none => rfl | some o => rw [(ex6.trans e7) _ _ h] at hp4; cases hp4) ((ex6.trans e7).trans (e8.trans e9)) (e9 _ _ g8) (by omega) heb
  · walk_at "ret"
    intro H9 e9
    exact k bs p2 H9 hp20 ((ex6.trans e7).trans e9) ((e7.trans e9) _ _ g6) (by omega) fun b hb => by have := hbb b hb; omega
theorem by_hand {G : Prop} {H : Hp} {n : Int} {Z : Prop} (W : Hp → Addr → Prop) (main : (∀ H' dd, Z → Ex H H' → ErrD H' dd "Truncated" n → W H' dd) → G) (hand : ∀ H' dd, Z → Ex H H' → ErrD H' dd "Truncated" n → W H' dd) : G := main hand
theorem frA_none {a p : Addr} {H H' : Hp} {C d : Addr} {n : Nat} (hF : FrA a H H') (hR : RdAt C H' a d n) (hp : H' p = none) : H p = none := by
  cases h : H p with
  | none => rfl
  | some o =>
    by_cases hpa : p = a
    · obtain ⟨dx, h2⟩ := hR
      rw [hpa, h2] at hp
      cases hp
    · rw [hF _ _ hpa h] at hp
      cases hp
def sp_lread (C : Addr) : Sp := fun vs H Q _ => ∃ (a d : Addr) (ds : List Nat) (pos kind wd : Nat), vs = [.ref a, .int (kind : Int), .int (wd : Int)] ∧ RdAt C H a d pos ∧ H d = some (.lst ((cs ds).map V.int)) ∧ (∀ b ∈ ds, b < 256) ∧ ds.length ≤ 1000 ∧ kind < 4 ∧ wd ≤ 64 ∧ pos ≤ 8 * ds.length ∧
  ∀ x H', FrA a H H' → RdAt C H' a d (posOf pos (dueF (ds.flatMap bits8) pos kind wd)) → Said H' ds.length (dueF (ds.flatMap bits8) pos kind wd) x → Q x H'
theorem ok_law_read (T : TX K mg) : FnOk P w K mg base CX0 5 T.a_law_read T.d_law_read ["reader", "kind", "width"] (sp_lread T.C_BitReader) := by
  refine T.F_law_read.ok sc_law_read (fun vs H Q E h => by obtain ⟨a, d, ds, pos, kind, wd, rfl, _⟩ := h; rfl) (fun cdv A outer s H vs Q E hr h => ?_)
  obtain ⟨a, d, ds, pos, kind, wd, rfl, hR, hd, hds, hl, hk4, hw, hpos, k⟩ := h
  obtain ⟨dx, ha⟩ := id hR
  refine ⟨_, (pss_one (ps_try_as (i := 5) rfl rfl sc_law_read.nd rfl rfl ⟨rfl, by decide, .inl T.g_MonochordError⟩ takes0 (fun W pn xe tk po => (pss_cons (ps_if (pt_cmpR op_eq (pv 1) pe_int (nomark _)) (pss_one (ps_ret (pe_tup (pa_cons pe_str (pa_cons (pe_methX (pv 0) T.cl_BitReader T.me_BitReader_read (ok_BitReader_read T) (hr.mono (by decide)) T.b_BitReader_read .nil (fun σ => passAt tk σ) (pa_cons (pv 2) pa_nil)) pa_nil))))) pss_nil)
        (pss_cons (ps_if (pt_cmpR op_eq (pv 1) pe_int (nomark _)) (pss_one (ps_ret (pe_tup (pa_cons pe_str (pa_cons (pe_methX (pv 0) T.cl_BitReader T.me_BitReader_read_signed (ok_BitReader_read_signed T) (hr.mono (by decide)) T.b_BitReader_read_signed .nil (fun σ => passAt tk σ) (pa_cons (pv 2) pa_nil)) pa_nil))))) pss_nil)
        (pss_cons (ps_if (pt_cmpR op_eq (pv 1) pe_int (nomark _)) (pss_one (ps_ret (pe_tup (pa_cons pe_str (pa_cons (pe_methX0 (pv 0) T.cl_BitReader T.me_BitReader_read_unary (ok_BitReader_read_unary T) (hr.mono (by decide)) T.b_BitReader_read_unary .nil (fun σ => passAt tk σ)) pa_nil))))) pss_nil)
        (pss_cons (ps_set (i := 3) sc_law_read.nd rfl (Or.inl rfl) (pe_methX (pv 0) T.cl_BitReader T.me_BitReader_read_bytes (ok_BitReader_read_bytes T) (hr.mono (by decide)) T.b_BitReader_read_bytes .nil (fun σ => passAt tk σ) (pa_cons (pv 2) pa_nil)))
        (pss_cons (ps_if (pt_not (pt_val (pe_callB (r := rIsi K) call_isi (by rfl) T.m_isinstance PyProof.Rows.boot_isinstance (pa_cons (pv 3) (pa_cons (pe_bltn (v := V.ty "list") (by rfl) T.m_list PyProof.Rows.boot_list rfl) pa_nil))))) (pss_one (ps_ret (pe_tup (pa_cons pe_str (pa_cons (pv 3) pa_nil))))) pss_nil)
        (pss_cons (ps_set (i := 4) sc_law_read.nd rfl (Or.inl rfl) (pe_callTy (r := rListS K) call_list_of (by rfl) T.m_list PyProof.Rows.boot_list (pa_cons (pv 3) pa_nil)))
        (pss_cons (ps_expr (te := tBM _ "list" rAppend (tVar 3) (tCons (tC (.int 1)) tNil)) (pe_bm PySem.F.plainAttrs_list PySem.F.slot_list_append PySem.F.type_list_append mt_append (pv 3) (pa_cons pe_int pa_nil)))
        (pss_one (ps_ret (pe_tup (pa_cons pe_str (pa_cons (pv 4) pa_nil))))))))))))) (fun a oe cls d pn hz hf => (pss_cons (ps_set (i := 6) sc_law_read.nd rfl (Or.inl rfl) (pe_and (pe_callB (call_isA hz hf) (by rfl) T.m_isinstance PyProof.Rows.boot_isinstance (pa_cons (pv 5) (pa_cons (pe_glob (v := V.ref T.C_Truncated) (by rfl) T.g_Truncated rfl) pa_nil))) (pe_and (pe_not (pe_callB (call_isA hz hf) (by rfl) T.m_isinstance PyProof.Rows.boot_isinstance (pa_cons (pv 5) (pa_cons (pe_glob (v := V.ref T.C_InvalidForm) (by rfl) T.g_InvalidForm rfl) pa_nil)))) (pe_one (pe_callB (call_isA hz hf) (by rfl) T.m_isinstance PyProof.Rows.boot_isinstance (pa_cons (pv 5) (pa_cons (pe_bltn (v := V.ty "ValueError") (by rfl) T.m_ValueError (by decide +kernel) rfl) pa_nil)))))))
        (pss_one (ps_ret (pe_tup (pa_cons pe_str (pa_cons (pv 6) (pa_cons (pe_xfA hz hf (pv 5)) pa_nil)))))))))), ?_⟩
  have hBl : (ds.flatMap bits8).length = 8 * ds.length := bits_flat_len ds
  have keq : ∀ {σ : L2.St} {H1 : Hp} (c : Nat), σ[1]? = some (some (.int (kind : Int))) → EvT (tTest (tOp rEq (tVar 1) (tC (.int (c : Int))))) σ H1 (decide (kind = c)) := fun c hs => et_test (Ev.is (ev_eq (ev_var hs) ev_c rfl) (congrArg V.bl (decide_eq_decide.mpr ⟨fun h => by have := V.int.inj h; omega, fun h => by rw [h]⟩)))
  have lead0 : (∀ i : Nat, (ds.flatMap bits8)[pos + i]? ≠ some true) → lead ((ds.flatMap bits8).drop pos) = none := fun h => by
    cases hl : lead ((ds.flatMap bits8).drop pos) with
    | none => rfl
    | some z => exact absurd (lead_run hl).2 (h z)
  apply by_hand (H := H) (n := (ds.length : Int)) (Z := dueF (ds.flatMap bits8) pos kind wd = none)
  · intro hand
    refine q_when (b := decide (kind = 0)) (keq 0 rfl) (fun h0 H1 e1 => ?_) (fun h0 H1 e1 => ?_)
    · have h0 := of_decide_eq_true h0
      have hdue : dueF (ds.flatMap bits8) pos kind wd = if pos + wd ≤ 8 * ds.length then some (.inl (valL (((ds.flatMap bits8).drop pos).take wd) : Int), pos + wd) else none := by unfold dueF; rw [if_neg (show ¬ kind = 2 by omega), if_neg (show ¬ kind = 3 by omega), if_neg (show ¬ kind = 1 by omega), hBl]
      refine mthX (sp := sp_readX T.C_BitReader T.C_Truncated) (m := "read") (dvs := []) (vs := [.int (wd : Int)]) (ev_var rfl) (e1 _ _ ha) rfl (ea_cons (ev_var rfl) ea_nil) fun H2 e2 => ⟨a, d, ds, pos, wd, rfl, hR.ex (e1.trans e2), (e1.trans e2) _ _ hd, hds, hw, by omega, fun hp H3 hF hR3 => ⟨sz_of (Nat.le_of_ble_eq_true rfl), fun t ht => ?_⟩, fun hp H3 dd e3 he => hand H3 dd (by rw [hdue, if_neg (by omega)]) ((e1.trans e2).trans e3) he⟩
      rw [hdue, if_pos hp] at k
      exact k (.ref t) _ (((FrA.ex (e1.trans e2)).trans hF).trans (FrA.ex (Ex.new ht))) (hR3.ex (Ex.new ht)) ⟨t, rfl, upd_same⟩
    have h0 := of_decide_eq_false h0
    refine q_when (b := decide (kind = 1)) (keq 1 rfl) (fun h1 H2 e2 => ?_) (fun h1 H2 e2 => ?_)
    · have h1 := of_decide_eq_true h1
      have ex2 := e1.trans e2
      have hdue : dueF (ds.flatMap bits8) pos kind wd = if pos + wd ≤ 8 * ds.length then some (.inl (sgN wd (valL (((ds.flatMap bits8).drop pos).take wd))), pos + wd) else none := by unfold dueF; rw [if_neg (show ¬ kind = 2 by omega), if_neg (show ¬ kind = 3 by omega), if_pos h1, hBl]
      refine mthX (sp := sp_readS T.C_BitReader T.C_Truncated) (m := "read_signed") (dvs := []) (vs := [.int (wd : Int)]) (ev_var rfl) (ex2 _ _ ha) rfl (ea_cons (ev_var rfl) ea_nil) fun H3 e3 => ⟨a, d, ds, pos, wd, rfl, hR.ex (ex2.trans e3), (ex2.trans e3) _ _ hd, hds, hw, by omega, fun hp H4 hF hR4 => ⟨sz_of (Nat.le_of_ble_eq_true rfl), fun t ht => ?_⟩, fun hp H4 dd e4 he => hand H4 dd (by rw [hdue, if_neg (by omega)]) ((ex2.trans e3).trans e4) he⟩
      rw [hdue, if_pos hp] at k
      exact k (.ref t) _ (((FrA.ex (ex2.trans e3)).trans hF).trans (FrA.ex (Ex.new ht))) (hR4.ex (Ex.new ht)) ⟨t, rfl, upd_same⟩
    have h1 := of_decide_eq_false h1
    have ex2 := e1.trans e2
    refine q_when (b := decide (kind = 2)) (keq 2 rfl) (fun h2 H3 e3 => ?_) (fun h2 H3 e3 => ?_)
    · have h2 := of_decide_eq_true h2
      have ex3 := ex2.trans e3
      have hdue : dueF (ds.flatMap bits8) pos kind wd = (lead ((ds.flatMap bits8).drop pos)).map fun z : Nat => (.inl (z : Int), pos + z + 1) := by unfold dueF; rw [if_pos h2]
      refine mthX (sp := sp_readU T.C_BitReader T.C_Truncated) (m := "read_unary") (dvs := []) (vs := []) (ev_var rfl) (ex3 _ _ ha) rfl ea_nil fun H4 e4 => ⟨a, d, ds, pos, rfl, hR.ex (ex3.trans e4), (ex3.trans e4) _ _ hd, hds, by omega, fun z hz H5 hF hR5 => ⟨sz_of (Nat.le_of_ble_eq_true rfl), fun t ht => ?_⟩, fun hz H5 dd e5 he => hand H5 dd (by rw [hdue, lead0 hz]; rfl) ((ex3.trans e4).trans e5) he⟩
      rw [hdue, lead_of _ z (fun i hi => by rw [List.getElem?_drop]; exact hz.1 i hi) (by rw [List.getElem?_drop]; exact hz.2)] at k
      exact k (.ref t) _ (((FrA.ex (ex3.trans e4)).trans hF).trans (FrA.ex (Ex.new ht))) (hR5.ex (Ex.new ht)) ⟨t, rfl, upd_same⟩
    have h2 := of_decide_eq_false h2
    have ex3 := ex2.trans e3
    have hdue : dueF (ds.flatMap bits8) pos kind wd = if pos + 8 * wd ≤ 8 * ds.length then some (.inr (bytesAt ds pos wd), pos + 8 * wd) else none := by unfold dueF; rw [if_neg h2, if_pos (by omega), hBl]; rfl
    refine q_asgMX (sp := sp_readB T.C_BitReader T.C_Truncated) (m := "read_bytes") (dvs := []) (vs := [.int (wd : Int)]) (ev_var rfl) (ex3 _ _ ha) rfl (ea_cons (ev_var rfl) ea_nil) fun H4 e4 => ⟨a, d, ds, pos, wd, rfl, hR.ex (ex3.trans e4), (ex3.trans e4) _ _ hd, hds, by omega, by omega, fun hp p H5 hp5 hF hR5 g5 => ?_, fun hp H5 dd e5 he => hand H5 dd (by rw [hdue, if_neg (by omega)]) ((ex3.trans e4).trans e5) he⟩
    rw [hdue, if_pos hp] at k
    have hF5 := (FrA.ex (ex3.trans e4)).trans hF
    refine q_when (b := !true) (et_not (et_B (ev_isiL (ev_var rfl) g5))) (fun hb => by cases hb) fun _ H6 e6 => ?_
    refine q_asgL (el_of (Ev.s (ev_var rfl) (sq_of (e6 _ _ g5)))) fun q H7 hq e7 g7 => ?_
    have npq : p ≠ q := fresh_ne hq (e6 _ _ g5)
    refine q_app (v := .int 1) ((e6.trans e7) _ _ g5) (ev_var rfl) ev_c (by rw [List.length_map, cs_len, bytesAt_len]; omega) fun H8 e8 => ?_
    refine s_retU (xs := [.str "value", .ref q]) (eu_tup (ea_cons ev_c (ea_cons (ev_var rfl) ea_nil)) (Nat.le_of_ble_eq_true rfl)) fun t H9 ht e9 g9 => ?_
    have npa : p ≠ a := hR5.ne g5
    refine k (.ref t) H9 (fun b o hb ho => e9 _ _ ?_) ?_ ⟨t, q, rfl, g9, e9 _ _ ?_⟩
    · have nbp : b ≠ p := fun z => by
        rw [z] at ho
        have h1 := (ex3.trans e4) _ _ ho
        rw [hp5] at h1
        cases h1
      rw [upd_ne nbp]
      exact ((e6.trans e7).trans e8) _ _ (hF5 _ _ hb ho)
    · obtain ⟨dx9, h9⟩ := hR5.ex ((e6.trans e7).trans e8)
      exact ⟨dx9, e9 _ _ (by rw [upd_ne npa.symm]; exact h9)⟩
    · rw [upd_ne npq.symm]
      exact e8 _ _ g7
  · intro H2 dd hz ex he
    rw [hz] at k
    refine ⟨true, exm_su T.x_MonochordError T.su_Truncated_MonochordError, fun _ a0 ha0 => ?_, fun z => by cases z⟩
    refine q_asg (v := .bl true) (Ev.is (ev_andV (ev_isA (ev_var rfl) rfl T.x_Truncated.ex rfl he (kitOne_ref T.x_Truncated T.su_Truncated_Truncated T.su_Truncated_Truncated)) fun _ => ev_andV (ev_notV (ev_isA (ev_var rfl) rfl T.x_Truncated.ex rfl he (kitOne_ref T.x_InvalidForm T.su_Truncated_InvalidForm T.su_Truncated_Truncated))) fun _ => ev_isVE (ev_var rfl) rfl T.x_Truncated.ex rfl he (kitOne_VE T.sv_Truncated)) rfl) fun H3 e3 => ?_
    refine s_retU (xs := [.str "error", .bl true, .int (ds.length : Int)]) (eu_tup (ea_cons ev_c (ea_cons (ev_var rfl) (ea_cons (ev_xfA (ev_var rfl) rfl T.x_Truncated.xf T.x_Truncated.nP rfl (he.ex e3) rfl) ea_nil))) (Nat.le_of_ble_eq_true rfl)) fun t H4 ht e4 g4 => ?_
    exact k (.ref t) H4 (FrA.ex ((ex.trans e3).trans e4)) (hR.ex ((ex.trans e3).trans e4)) ⟨t, rfl, g4⟩
theorem kit_il : kitB "int" "list" = some false := by decide +kernel
def sp_fits : Sp := fun vs H Q _ => ∃ (x y : V) (size : Nat) (v : Option ((Int ⊕ List Nat) × Nat)), vs = [x, y, .int (size : Int)] ∧ Said H size v x ∧ Told H v y ∧ RetV (.bl true) H Q
theorem ok_law_fits (T : TX K mg) : FnOk P w K mg base CX0 3 T.a_law_fits T.d_law_fits ["told", "due", "size"] sp_fits := by
  refine T.F_law_fits.ok sc_law_fits (fun vs H Q E h => by obtain ⟨x, y, size, v, rfl, _⟩ := h; rfl) (fun cdv A outer s H vs Q E hr h => ?_)
  obtain ⟨x, y, size, v, rfl, hS, hT, k⟩ := h
  refine ⟨_, (pss_cons (ps_if (pt_cmpR op_isN1 (pv 1) pe_non (nomark _)) (pss_one (ps_ret (pe_and (pe_cmpR op_eq (pe_ix (r := rIxT K) ix_tup (pv 0) pe_int (fun _ _ => rfl)) pe_str (nomark _)) (pe_and (pe_ix (r := rIxT K) ix_tup (pv 0) pe_int (fun _ _ => rfl)) (pe_and (pe_call (ok_law_is_integer T) (hr.mono (by decide)) (by rfl) T.g_law_is_integer T.F_law_is_integer.kp T.b_law_is_integer .nil pass0 (pa_cons (pe_ix (r := rIxT K) ix_tup (pv 0) pe_int (fun _ _ => rfl)) pa_nil)) (pe_one (pe_cmpR op_eq (pe_ix (r := rIxT K) ix_tup (pv 0) pe_int (fun _ _ => rfl)) (pv 2) (nomark _)))))))) pss_nil)
      (pss_cons (ps_if (pt_cmpR op_ne (pe_ix (r := rIxT K) ix_tup (pv 0) pe_int (fun _ _ => rfl)) pe_str (nomark _)) (pss_one (ps_ret pe_bl)) pss_nil)
      (pss_cons (ps_if (pt_val (pe_callB (r := rIsi K) call_isi (by rfl) T.m_isinstance PyProof.Rows.boot_isinstance (pa_cons (pe_ix (r := rIxT K) ix_tup (pv 1) pe_int (fun _ _ => rfl)) (pa_cons (pe_bltn (v := V.ty "list") (by rfl) T.m_list PyProof.Rows.boot_list rfl) pa_nil)))) (pss_one (ps_ret (pe_call (ok_law_same T) (hr.mono (by decide)) (by rfl) T.g_law_same T.F_law_same.kp T.b_law_same .nil pass0 (pa_cons (pe_ix (r := rIxT K) ix_tup (pv 0) pe_int (fun _ _ => rfl)) (pa_cons (pe_ix (r := rIxT K) ix_tup (pv 1) pe_int (fun _ _ => rfl)) pa_nil))))) pss_nil)
      (pss_one (ps_ret (pe_and (pe_call (ok_law_is_integer T) (hr.mono (by decide)) (by rfl) T.g_law_is_integer T.F_law_is_integer.kp T.b_law_is_integer .nil pass0 (pa_cons (pe_ix (r := rIxT K) ix_tup (pv 0) pe_int (fun _ _ => rfl)) pa_nil)) (pe_one (pe_cmpR op_eq (pe_ix (r := rIxT K) ix_tup (pv 0) pe_int (fun _ _ => rfl)) (pe_ix (r := rIxT K) ix_tup (pv 1) pe_int (fun _ _ => rfl)) (nomark _))))))))), ?_⟩
  match v with
  | none =>
    obtain ⟨t, rfl, gt⟩ := hS
    have hT : y = .non := hT
    subst hT
    refine q_when (b := true) (et_test (Ev.is (ev_isN (ev_var rfl)) (congrArg V.bl (decide_eq_true rfl)))) (fun _ H1 e1 => ?_) (fun hb => by cases hb)
    have T1 : SqT K H1 t [.str "error", .bl true, .int (size : Int)] := st_of (e1 _ _ gt)
    exact s_ret (v := .bl true) (Ev.is (ev_andV (ev_eq (ev_atT (ev_var rfl) T1 ev_c (at_of (j := 0) rfl rfl)) ev_c rfl) fun _ => ev_andV (ev_atT (ev_var rfl) T1 ev_c (at_of (j := 1) rfl rfl)) fun _ => ev_andV (ev_isint (ev_atT (ev_var rfl) T1 ev_c (at_of (j := 2) rfl rfl))) fun _ => ev_eq (ev_atT (ev_var rfl) T1 ev_c (at_of (j := 2) rfl rfl)) (ev_var rfl) rfl) (congrArg V.bl (by rw [decide_eq_true rfl, decide_eq_true rfl]; rfl))) fun H2 e2 => k H2 (e1.trans e2)
  | some (.inl n, e) =>
    obtain ⟨t, rfl, gt⟩ := hS
    obtain ⟨u, rfl, gu⟩ := hT
    refine q_when (b := false) (et_test (Ev.is (ev_isN (ev_var rfl)) (congrArg V.bl (decide_eq_false fun h => by cases h)))) (fun hb => by cases hb) fun _ H1 e1 => ?_
    refine q_when (b := false) (et_test (Ev.is (ev_ne (ev_atT (ev_var rfl) (st_of (e1 _ _ gt)) ev_c (at_of (j := 0) rfl rfl)) ev_c rfl) (by rw [decide_eq_true rfl]; rfl))) (fun hb => by cases hb) fun _ H2 e2 => ?_
    have ex2 := e1.trans e2
    refine q_when (b := false) (et_B (ev_isi (ev_atT (ev_var rfl) (st_of (ex2 _ _ gu)) ev_c (at_of (j := 0) rfl rfl)) isi_int kit_il)) (fun hb => by cases hb) fun _ H3 e3 => ?_
    have ex3 := ex2.trans e3
    exact s_ret (v := .bl true) (Ev.is (ev_andV (ev_isint (ev_atT (ev_var rfl) (st_of (ex3 _ _ gt)) ev_c (at_of (j := 1) rfl rfl))) fun _ => ev_eq (ev_atT (ev_var rfl) (st_of (ex3 _ _ gt)) ev_c (at_of (j := 1) rfl rfl)) (ev_atT (ev_var rfl) (st_of (ex3 _ _ gu)) ev_c (at_of (j := 0) rfl rfl)) rfl) (congrArg V.bl (by rw [decide_eq_true rfl]; rfl))) fun H4 e4 => k H4 (ex3.trans e4)
  | some (.inr bs, e) =>
    obtain ⟨t, p, rfl, gt, gp⟩ := hS
    obtain ⟨u, q, rfl, gu, gq, hbl⟩ := hT
    refine q_when (b := false) (et_test (Ev.is (ev_isN (ev_var rfl)) (congrArg V.bl (decide_eq_false fun h => by cases h)))) (fun hb => by cases hb) fun _ H1 e1 => ?_
    refine q_when (b := false) (et_test (Ev.is (ev_ne (ev_atT (ev_var rfl) (st_of (e1 _ _ gt)) ev_c (at_of (j := 0) rfl rfl)) ev_c rfl) (by rw [decide_eq_true rfl]; rfl))) (fun hb => by cases hb) fun _ H2 e2 => ?_
    have ex2 := e1.trans e2
    refine q_when (b := true) (et_B (ev_isiL (ev_atT (ev_var rfl) (st_of (ex2 _ _ gu)) ev_c (at_of (j := 0) rfl rfl)) (ex2 _ _ gq))) (fun _ H3 e3 => ?_) (fun hb => by cases hb)
    have ex3 := ex2.trans e3
    exact s_ret (ev_same (Ev.r (ev_atT (ev_var rfl) (st_of (ex3 _ _ gt)) ev_c (at_of (j := 1) rfl rfl)) (ex3 _ _ gp)) (Ev.r (ev_atT (ev_var rfl) (st_of (ex3 _ _ gu)) ev_c (at_of (j := 0) rfl rfl)) (ex3 _ _ gq)) (by rw [cs_len]; omega)) fun H4 e4 => k H4 (ex3.trans e4)
def sp_placed (C : Addr) : Sp := fun vs H Q _ => ∃ (a d : Addr) (pos : Nat), vs = [.ref a, .int (pos : Int)] ∧ RdAt C H a d pos ∧ RetV (.bl true) H Q
theorem ok_law_placed (T : TX K mg) : FnOk P w K mg base CX0 2 T.a_law_placed T.d_law_placed ["reader", "at"] (sp_placed T.C_BitReader) := by
  refine T.F_law_placed.ok sc_law_placed (fun vs H Q E h => by obtain ⟨a, d, pos, rfl, _⟩ := h; rfl) (fun cdv A outer s H vs Q E hr h => ?_)
  obtain ⟨a, d, pos, rfl, hR, k⟩ := h
  refine ⟨_, (pss_cons (ps_if (PW.pt (pw_or (pt_cmpR op_ne (pe_meth0 (pv 0) T.cl_BitReader T.me_BitReader_bit_place (ok_BitReader_bit_place T) (hr.mono (by decide)) T.b_BitReader_bit_place .nil pass0) (pv 1) (nomark _)) (pw_or1 (pt_cmpR op_ne (pe_meth0 (pv 0) T.cl_BitReader T.me_BitReader_byte_place (ok_BitReader_byte_place T) (hr.mono (by decide)) T.b_BitReader_byte_place .nil pass0) (pe_op op_fdiv (pv 1) pe_int) (nomark _))))) (pss_one (ps_ret pe_bl)) pss_nil)
      (pss_cons (ps_set (i := 2) sc_law_placed.nd rfl (Or.inl rfl) (pe_meth0 (pv 0) T.cl_BitReader T.me_BitReader_aligned (ok_BitReader_aligned T) (hr.mono (by decide)) T.b_BitReader_aligned .nil pass0))
      (pss_one (ps_ret (pe_and (pe_callB (r := rIsi K) call_isi (by rfl) T.m_isinstance PyProof.Rows.boot_isinstance (pa_cons (pv 2) (pa_cons (pe_bltn (v := V.ty "bool") (by rfl) T.m_bool PyProof.Rows.boot_bool rfl) pa_nil))) (pe_one (pe_cmpR op_eq (pv 2) (pe_cmpR op_eq (pe_op op_mod (pe_callTy call_int1 (by rfl) T.m_int PyProof.Rows.boot_int (pa_cons (pv 1) pa_nil)) pe_int) pe_int (nomark _)) (nomark _)))))))), ?_⟩
  refine q_when (b := false) (et_or (a := false) (b := false) (et_test (Ev.is (ev_ne (ev_place (f := fun pos => (pos : Nat)) (ev_var rfl) hR rfl) (ev_var rfl) rfl) (by rw [decide_eq_true rfl]; rfl))) fun _ => et_test (Ev.is (ev_ne (ev_place (f := fun pos => (pos / 8 : Nat)) (ev_var rfl) hR rfl) (Ev.is (ev_I (ev_var rfl) ev_c ⟨by decide, by decide⟩) (congrArg V.int (by show _ = ((pos / 8 : Nat) : Int); omega))) rfl) (by rw [decide_eq_true rfl]; rfl))) (fun hb => by cases hb) fun _ H1 e1 => ?_
  refine q_asg (ev_aligned (ev_var rfl) (hR.ex e1)) fun H2 e2 => ?_
  exact s_ret (v := .bl true) (Ev.is (ev_andV (ev_isiBB (ev_var rfl)) fun _ => ev_eq (ev_var rfl) (Ev.is (ev_eq (ev_I (ev_int1 (ev_var rfl)) ev_c (by decide)) ev_c rfl) (congrArg V.bl (a₂ := decide (pos % 8 = 0)) (decide_eq_decide.mpr ⟨fun h => by have := V.int.inj h; omega, fun h => congrArg V.int (by omega)⟩))) rfl) (congrArg V.bl (by rw [decide_eq_true rfl]; rfl))) fun H3 e3 => k H3 ((e1.trans e2).trans e3)

/-! ### readers over a list that stands -/
theorem mk_rg {C d : Addr} {E : XK} {σ : L2.St} {H : Hp} {Q : VK} {t : TA} {vs dvs : List V} {n : Nat} (h : EvA t σ H vs) (hv : vs ++ dvs = [.ref d, .int (n : Int)]) (hn : n ≤ 1000000) (k : ∀ a H', H a = none → Ex H H' → RdAt C H' a d (8 * n) → Q (.ref a) H') : tMake C (sp_rinit C) dvs E t σ H Q :=
  h H (Ex.refl H) _ fun H2 e2 => fun x dx hx hdx hne => by
    have hex : ∀ b o, H2 b = some o → upd (upd H2 dx (HO.own x)) x (HO.ins C dx []) b = some o := fun b o hb => by
      rw [upd_ne (fresh_ne hx hb), upd_ne (fresh_ne hdx hb)]
      exact hb
    refine ⟨x, dx, d, n, by rw [hv], upd_same, hn, fun H' hF hR => ⟨rfl, k x H' ?_ (fun b o hb => hF b o (fresh_ne hx (e2 _ _ hb)) (hex b o (e2 _ _ hb))) hR⟩⟩
    cases h : H x with
    | none => rfl
    | some o => rw [e2 _ _ h] at hx; cases hx
theorem ev_newplace {C d : Addr} {E E' : XK} {σ : L2.St} {H : Hp} {t : TA} {vs dvs : List V} {n : Nat} {m : Str} {f : Nat → Int} (h : EvA t σ H vs) (hv : vs ++ dvs = [.ref d, .int (n : Int)]) (hn : n ≤ 1000000) (hm : (rF d (8 * n)).lookup m = none) : Ev (tMeth C m (sp_place C f) [] E' (tMake C (sp_rinit C) dvs E t) tNil) σ H (.int (f (8 * n))) := fun H1 e Q q =>
  mk_rg (h.mono e) hv hn fun a H2 ha e2 hR => by
    obtain ⟨dx, h2⟩ := id hR
    exact ⟨a, dx, _, rfl, h2, hm, a, d, 8 * n, rfl, hR, fun H3 e3 => q H3 (e2.trans e3)⟩
theorem ev_pick {σ : L2.St} {H : Hp} {tl ti : TE} {p : Addr} {f : Nat → Addr} {j : Nat} (hj : j < 2) (h1 : Ev tl σ H (.ref p)) (hp : H p = some (.lst [.ref (f 0), .ref (f 1)])) (h2 : Ev ti σ H (.int (j : Int))) : Ev (tOp (rIxL K) tl ti) σ H (.ref (f j)) := by
  refine ev_at (Ev.s h1 (sq_of hp)) h2 (at_of rfl ?_)
  match j, hj with
  | 0, _ => rfl
  | 1, _ => rfl
theorem ev_pickN {σ : L2.St} {H : Hp} {tl ti : TE} {p : Addr} {f : Nat → Nat} {j : Nat} (hj : j < 2) (h1 : Ev tl σ H (.ref p)) (hp : H p = some (.lst [.int (f 0 : Nat), .int (f 1 : Nat)])) (h2 : Ev ti σ H (.int (j : Int))) : Ev (tOp (rIxL K) tl ti) σ H (.int (f j : Nat)) := by
  refine ev_at (Ev.s h1 (sq_of hp)) h2 (at_of rfl ?_)
  match j, hj with
  | 0, _ => rfl
  | 1, _ => rfl
def upN {α : Type} (f : Nat → α) (j : Nat) (x : α) : Nat → α := fun i => if i = j then x else f i
theorem upN_same {α : Type} {f : Nat → α} {j : Nat} {x : α} : upN f j x j = x := if_pos rfl
theorem upN_ne {α : Type} {f : Nat → α} {i j : Nat} {x : α} (h : i ≠ j) : upN f j x i = f i := if_neg h
theorem upN_self {α : Type} {f : Nat → α} {j : Nat} : upN f j (f j) = f := funext fun i => by
  by_cases h : i = j
  · rw [h, upN_same]
  · rw [upN_ne h]

theorem q_asgTy {σ : L2.St} {H : Hp} {D : Ends} {tz : TS} {te : TE} {i : Nat} (P : V → Hp → Prop) (h : ∀ Q : VK, (∀ x H2, P x H2 → Q x H2) → te σ H Q) (k : ∀ x H2, P x H2 → tz D (σ.set i (some x)) H2) : tSeq (tAsg te (gName i)) tz D σ H := h _ k

structure TwoR (C : Addr) (H : Hp) (R P s d pd bb : Addr) (a : Nat → Addr) (p r : Nat → Nat) (ds : List Nat) (xs : List V) : Prop where
  hR : H R = some (.lst [.ref (a 0), .ref (a 1)])
  hP : H P = some (.lst [.int (p 0 : Nat), .int (p 1 : Nat)])
  hr : ∀ j, j < 2 → RdAt C H (a j) d (r j)
  hd : H d = some (.lst ((cs ds).map V.int))
  hpd : H pd = some (.lst ((cs ds).map V.int))
  hb : H bb = some (.lst ((bI (ds.flatMap bits8)).map V.int))
  hs : H s = some (.lst xs)
  ne : ∀ i j, i < 2 → j < 2 → i ≠ j → a i ≠ a j
  nP : P ≠ R ∧ P ≠ d ∧ P ≠ pd ∧ P ≠ bb ∧ P ≠ s
  le : ∀ j, j < 2 → r j ≤ 8 * ds.length
section
variable {C : Addr} {H H1 : Hp} {R P' s d pd bb : Addr} {a : Nat → Addr} {p r : Nat → Nat} {ds : List Nat} {xs : List V}
theorem TwoR.ex (h : TwoR C H R P' s d pd bb a p r ds xs) (e : Ex H H1) : TwoR C H1 R P' s d pd bb a p r ds xs := ⟨e _ _ h.hR, e _ _ h.hP, fun j hj => (h.hr j hj).ex e, e _ _ h.hd, e _ _ h.hpd, e _ _ h.hb, e _ _ h.hs, h.ne, h.nP, h.le⟩
theorem TwoR.fr (h : TwoR C H R P' s d pd bb a p r ds xs) {j e : Nat} (hj : j < 2) (hF : FrA (a j) H H1) (hR1 : RdAt C H1 (a j) d e) (he : e ≤ 8 * ds.length) : TwoR C H1 R P' s d pd bb a p (upN r j e) ds xs := by
  have hn := h.hr j hj
  refine ⟨hF _ _ (hn.ne h.hR) h.hR, hF _ _ (hn.ne h.hP) h.hP, fun i hi => ?_, hF _ _ (hn.ne h.hd) h.hd, hF _ _ (hn.ne h.hpd) h.hpd, hF _ _ (hn.ne h.hb) h.hb, hF _ _ (hn.ne h.hs) h.hs, h.ne, h.nP, fun i hi => ?_⟩
  · by_cases hij : i = j
    · rw [hij, upN_same]
      exact hR1
    · rw [upN_ne hij]
      obtain ⟨dx, hx⟩ := h.hr i hi
      exact ⟨dx, hF _ _ (h.ne i j hi hj hij) hx⟩
  · by_cases hij : i = j
    · rw [hij, upN_same]
      exact he
    · rw [upN_ne hij]
      exact h.le i hi
theorem TwoR.set (h : TwoR C H R P' s d pd bb a p r ds xs) {j v : Nat} (hj : j < 2) : TwoR C (upd H P' (.lst ([.int (p 0 : Nat), .int (p 1 : Nat)].set j (.int (v : Int))))) R P' s d pd bb a (upN p j v) r ds xs := by
  have u : ∀ {q : Addr} {o : HO} {w : List V}, P' ≠ q → H q = some o → upd H P' (.lst w) q = some o := fun n g => by rw [upd_ne n.symm]; exact g
  refine ⟨u h.nP.1 h.hR, ?_, fun i hi => ?_, u h.nP.2.1 h.hd, u h.nP.2.2.1 h.hpd, u h.nP.2.2.2.1 h.hb, u h.nP.2.2.2.2 h.hs, h.ne, h.nP, h.le⟩
  · rw [upd_same]
    match j, hj with
    | 0, _ => rfl
    | 1, _ => rfl
  · obtain ⟨dx, hx⟩ := h.hr i hi
    exact ⟨dx, u (fun z => by rw [← z, h.hP] at hx; cases hx) hx⟩
end
theorem Said.ex {H H' : Hp} {n : Nat} {v : Option ((Int ⊕ List Nat) × Nat)} {x : V} (e : Ex H H') (h : Said H n v x) : Said H' n v x := by
  match v with
  | none => obtain ⟨t, h1, h2⟩ := h; exact ⟨t, h1, e _ _ h2⟩
  | some (.inl n, k) => obtain ⟨t, h1, h2⟩ := h; exact ⟨t, h1, e _ _ h2⟩
  | some (.inr bs, k) => obtain ⟨t, p, h1, h2, h3⟩ := h; exact ⟨t, p, h1, e _ _ h2, e _ _ h3⟩
theorem Told.fr {C a d : Addr} {m : Nat} {H H' : Hp} {v : Option ((Int ⊕ List Nat) × Nat)} {x : V} (hR : RdAt C H a d m) (e : FrA a H H') (h : Told H v x) : Told H' v x := by
  have nt : ∀ {t : Addr} {ys : List V}, H t = some (.tup ys) → t ≠ a := fun g z => by
    obtain ⟨dx, h2⟩ := hR
    rw [z, h2] at g
    cases g
  match v with
  | none => exact h
  | some (.inl n, k) => obtain ⟨t, h1, h2⟩ := h; exact ⟨t, h1, e _ _ (nt h2) h2⟩
  | some (.inr bs, k) => obtain ⟨t, p, h1, h2, h3, h4⟩ := h; exact ⟨t, p, h1, e _ _ (nt h2) h2, e _ _ (hR.ne h3) h3, h4⟩
theorem ev_fits {σ : L2.St} {H : Hp} {t1 t2 t3 : TE} {E : XK} {x y : V} {size : Nat} {v : Option ((Int ⊕ List Nat) × Nat)} (h1 : Ev t1 σ H x) (h2 : Ev t2 σ H y) (h3 : Ev t3 σ H (.int (size : Int))) (hS : Said H size v x) (hT : Told H v y) : Ev (tCall sp_fits [] E (tCons t1 (tCons t2 (tCons t3 tNil)))) σ H (.bl true) :=
  ev_call (ea_cons h1 (ea_cons h2 (ea_cons h3 ea_nil))) fun H1 e Q q _ => ⟨x, y, size, v, rfl, hS.ex e, hT.ex e, q⟩
theorem ev_placed {σ : L2.St} {H : Hp} {t1 t2 : TE} {E : XK} {C a d : Addr} {pos : Nat} (h1 : Ev t1 σ H (.ref a)) (h2 : Ev t2 σ H (.int (pos : Int))) (hR : RdAt C H a d pos) : Ev (tCall (sp_placed C) [] E (tCons t1 (tCons t2 tNil))) σ H (.bl true) :=
  ev_call (ea_cons h1 (ea_cons h2 ea_nil)) fun H1 e Q q _ => ⟨a, d, pos, rfl, hR.ex e, q⟩
theorem q_whenNC {σ : L2.St} {H : Hp} {sp1 sp2 : Sp} {dvs1 dvs2 vs2 : List V} {E1 E2 : XK} {t2 rest : TA} {D : Ends} {tu tz : TS} (h : EvA t2 σ H vs2) (k : ∀ H1, Ex H H1 → sp2 (vs2 ++ dvs2) H1 (fun x H2 => tSeq (tIfS (tNot (tB (tCall sp1 dvs1 E1 (tCons (tC x) rest)))) tu tNext) tz D σ H2) E2) :
    tSeq (tIfS (tNot (tB (tCall sp1 dvs1 E1 (tCons (tCall sp2 dvs2 E2 t2) rest)))) tu tNext) tz D σ H := h H (Ex.refl H) _ fun H1 e => k H1 e
def sp_law (K : PySem.W.Frag) : Sp := fun vs H Q _ => ∃ (a : Addr) (ns : List Int), vs = [.ref a] ∧ SqL K H a (ns.map V.int) ∧ ns.length ≤ 63 ∧ ∀ H', Q (.bl true) H'
theorem two_r {C d : Addr} {E E' : XK} {σ : L2.St} {H : Hp} {Q : VK} {t t' : TA} {vs vs' : List V} {n n' : Nat} (h : EvA t σ H vs) (hv : vs ++ [] = [.ref d, .int (n : Int)]) (hn : n ≤ 1000000) (h' : EvA t' σ H vs') (hv' : vs' ++ [] = [.ref d, .int (n' : Int)]) (hn' : n' ≤ 1000000)
    (k : ∀ a0 a1 R H2, a0 ≠ a1 → Ex H H2 → RdAt C H2 a0 d (8 * n) → RdAt C H2 a1 d (8 * n') → H2 R = some (.lst [.ref a0, .ref a1]) → Q (.ref R) H2) : tLst (tCons (tMake C (sp_rinit C) [] E t) (tCons (tMake C (sp_rinit C) [] E' t') tNil)) σ H Q := by
  show tMake C (sp_rinit C) [] E t σ H (fun x H1 => tMake C (sp_rinit C) [] E' t' σ H1 fun y H2 => [x, y].length ≤ sizeLine ∧ ∀ p, H2 p = none → Q (.ref p) (upd H2 p (.lst [x, y])))
  refine mk_rg h hv hn fun a0 H1 ha0 e1 r0 => mk_rg (h'.mono e1) hv' hn' fun a1 H2 ha1 e2 r1 => ⟨sz_of (Nat.le_of_ble_eq_true rfl), fun R hRR => ?_⟩
  obtain ⟨dx, hx⟩ := id r0
  exact k a0 a1 R _ (fresh_ne ha1 hx) ((e1.trans e2).trans (Ex.new hRR)) ((r0.ex e2).ex (Ex.new hRR)) (r1.ex (Ex.new hRR)) upd_same
theorem ok_law (T : TX K mg) : FnOk P w K mg base CX0 6 T.a_law T.d_law ["script"] (sp_law K) := by
  refine T.F_law.ok sc_law (fun vs H Q E h => by obtain ⟨a, ns, rfl, _⟩ := h; rfl) (fun cdv A outer s H vs Q E hr h => ?_)
  obtain ⟨a, ns, rfl, hS, hlen, k⟩ := h
  refine ⟨_, (pss_cons (ps_set (i := 1) sc_law.nd rfl (Or.inl rfl) (pe_call (ok_law_data T) (hr.mono (by decide)) (by rfl) T.g_law_data T.F_law_data.kp T.b_law_data .nil pass0 (pa_cons (pe_call (ok_law_cell T) (hr.mono (by decide)) (by rfl) T.g_law_cell T.F_law_cell.kp T.b_law_cell .nil pass0 (pa_cons (pv 0) (pa_cons pe_int pa_nil))) (pa_cons (pe_call (ok_law_cell T) (hr.mono (by decide)) (by rfl) T.g_law_cell T.F_law_cell.kp T.b_law_cell .nil pass0 (pa_cons (pv 0) (pa_cons pe_int pa_nil))) pa_nil))))
      (pss_cons (ps_set (i := 2) sc_law.nd rfl (Or.inl rfl) (pe_callTy (r := rListS K) call_list_of (by rfl) T.m_list PyProof.Rows.boot_list (pa_cons (pv 1) pa_nil)))
      (pss_cons (ps_set (i := 3) sc_law.nd rfl (Or.inl rfl) (pe_call (ok_law_all_bits T) (hr.mono (by decide)) (by rfl) T.g_law_all_bits T.F_law_all_bits.kp T.b_law_all_bits .nil pass0 (pa_cons (pv 1) pa_nil)))
      (pss_cons (ps_set (i := 4) sc_law.nd rfl (Or.inl rfl) (pe_call (ok_law_draw T) (hr.mono (by decide)) (by rfl) T.g_law_draw T.F_law_draw.kp T.b_law_draw .nil pass0 (pa_cons (pe_op op_add (pe_call (ok_law_cell T) (hr.mono (by decide)) (by rfl) T.g_law_cell T.F_law_cell.kp T.b_law_cell .nil pass0 (pa_cons (pv 0) (pa_cons pe_int pa_nil))) pe_int) (pa_cons pe_int (pa_cons (pe_op op_add (pe_callB (r := rLenS K) call_len_seq (by rfl) T.m_len PySem.boot_len (pa_cons (pv 1) pa_nil)) pe_int) pa_nil)))))
      (pss_cons (ps_set (i := 5) sc_law.nd rfl (Or.inl rfl) (pe_lst (pa_cons (pe_make T.M_BitReader (ok_BitReader_init T) (hr.mono (by decide)) (by rfl) T.g_BitReader T.b3_BitReader_init T.v3_BitReader_init pass0 (pa_cons (pv 2) (pa_cons (pe_ix (r := rIxL K) ix_list (pv 4) pe_int (fun _ _ => rfl)) pa_nil))) (pa_cons (pe_make T.M_BitReader (ok_BitReader_init T) (hr.mono (by decide)) (by rfl) T.g_BitReader T.b3_BitReader_init T.v3_BitReader_init pass0 (pa_cons (pv 2) (pa_cons (pe_ix (r := rIxL K) ix_list (pv 4) pe_int (fun _ _ => rfl)) pa_nil))) pa_nil))))
      (pss_cons (ps_set (i := 6) sc_law.nd rfl (Or.inl rfl) (pe_lst (pa_cons (pe_meth0 (pe_make T.M_BitReader (ok_BitReader_init T) (hr.mono (by decide)) (by rfl) T.g_BitReader T.b2_BitReader_init T.v2_BitReader_init pass0 (pa_cons (pv 2) pa_nil)) T.cl_BitReader T.me_BitReader_bit_place (ok_BitReader_bit_place T) (hr.mono (by decide)) T.b_BitReader_bit_place .nil pass0) (pa_cons (pe_op op_mul pe_int (pe_ix (r := rIxL K) ix_list (pv 4) pe_int (fun _ _ => rfl))) (pa_cons (pe_op op_mul pe_int (pe_ix (r := rIxL K) ix_list (pv 4) pe_int (fun _ _ => rfl))) pa_nil)))))
      (pss_cons (ps_set (i := 7) sc_law.nd rfl (Or.inl rfl) (pe_lst (pa_cons (pe_ix (r := rIxL K) ix_list (pv 6) pe_int (fun _ _ => rfl)) (pa_cons (pe_ix (r := rIxL K) ix_list (pv 6) pe_int (fun _ _ => rfl)) pa_nil))))
      (pss_cons (ps_if (pt_cmpR op_ne (pe_ix (r := rIxL K) ix_list (pv 6) pe_int (fun _ _ => rfl)) pe_int (nomark _)) (pss_one (ps_ret pe_bl)) pss_nil)
      (pss_cons (ps_for PassesOwn.never rfl (pi_list (pe_slice (r := rSlL K) sl_list (pv 0) (po_some pe_int) (po_some pe_int))) (pg_name (i := 8) sc_law.nd rfl (Or.inl rfl)) (pss_cons (ps_set (i := 9) sc_law.nd rfl (Or.inl rfl) (pe_call (ok_law_draw T) (hr.mono (by decide)) (by rfl) T.g_law_draw T.F_law_draw.kp T.b_law_draw .nil pass0 (pa_cons (pv 8) (pa_cons pe_int (pa_cons (pe_op op_shl pe_int pe_int) pa_nil)))))
        (pss_cons (ps_set (i := 10) sc_law.nd rfl (Or.inl rfl) (pe_op op_mod (pe_ix (r := rIxL K) ix_list (pv 9) pe_int (fun _ _ => rfl)) pe_int))
        (pss_cons (ps_set (i := 11) sc_law.nd rfl (Or.inl rfl) (pe_op op_mod (pe_ix (r := rIxL K) ix_list (pv 9) pe_int (fun _ _ => rfl)) pe_int))
        (pss_cons (ps_set (i := 12) sc_law.nd rfl (Or.inl rfl) (pe_op op_mod (pe_ix (r := rIxL K) ix_list (pv 9) pe_int (fun _ _ => rfl)) pe_int))
        (pss_cons (ps_if (pt_cmpR op_eq (pe_op op_mod (pe_op op_fdiv (pe_ix (r := rIxL K) ix_list (pv 9) pe_int (fun _ _ => rfl)) pe_int) pe_int) pe_int (nomark _)) (pss_one (ps_set (i := 12) sc_law.nd rfl (Or.inl rfl) (pe_op op_mod (pe_ix (r := rIxL K) ix_list (pv 9) pe_int (fun _ _ => rfl)) pe_int))) pss_nil)
        (pss_cons (ps_if (pt_cmpR op_eq (pv 11) pe_int (nomark _)) (pss_one (ps_set (i := 12) sc_law.nd rfl (Or.inl rfl) (pe_callB (call_max2 rfl) (by rfl) T.m_max PyProof.Rows.boot_max (pa_cons pe_int (pa_cons (pv 12) pa_nil))))) pss_nil)
        (pss_cons (ps_if (PW.pt (pw_and (pt_cmpR op_eq (pv 11) pe_int (nomark _)) (pw_and1 (pt_cmpR op_gt (pe_op op_mod (pe_op op_fdiv (pe_ix (r := rIxL K) ix_list (pv 9) pe_int (fun _ _ => rfl)) pe_int) pe_int) pe_int (nomark _))))) (pss_one (ps_set (i := 12) sc_law.nd rfl (Or.inl rfl) (pe_op op_mod (pe_callTy call_int1 (by rfl) T.m_int PyProof.Rows.boot_int (pa_cons (pv 12) pa_nil)) pe_int))) pss_nil)
        (pss_cons (ps_set (i := 13) sc_law.nd rfl (Or.inl rfl) (pe_call (ok_law_due T) (hr.mono (by decide)) (by rfl) T.g_law_due T.F_law_due.kp T.b_law_due .nil pass0 (pa_cons (pv 3) (pa_cons (pe_ix (r := rIxL K) ix_list (pv 7) (pv 10) (fun _ _ => rfl)) (pa_cons (pv 11) (pa_cons (pv 12) pa_nil))))))
        (pss_cons (ps_if (pt_not (pt_val (pe_call (ok_law_fits T) (hr.mono (by decide)) (by rfl) T.g_law_fits T.F_law_fits.kp T.b_law_fits .nil pass0 (pa_cons (pe_call (ok_law_read T) (hr.mono (by decide)) (by rfl) T.g_law_read T.F_law_read.kp T.b_law_read .nil pass0 (pa_cons (pe_ix (r := rIxL K) ix_list (pv 5) (pv 10) (fun _ _ => rfl)) (pa_cons (pv 11) (pa_cons (pv 12) pa_nil)))) (pa_cons (pv 13) (pa_cons (pe_callB (r := rLenS K) call_len_seq (by rfl) T.m_len PySem.boot_len (pa_cons (pv 1) pa_nil)) pa_nil)))))) (pss_one (ps_ret pe_bl)) pss_nil)
        (pss_cut (ps_if (pt_cmpR op_notN1 (pv 13) pe_non (nomark _)) (pss_one (ps_asg (pe_ix (r := rIxT K) ix_tup (pv 13) pe_int (fun _ _ => rfl)) (pg_sub (pv 7) (pv 10) set_list))) pss_nil)
        (pss_cons (ps_if (pt_not (pt_val (pe_call (ok_law_placed T) (hr.mono (by decide)) (by rfl) T.g_law_placed T.F_law_placed.kp T.b_law_placed .nil pass0 (pa_cons (pe_ix (r := rIxL K) ix_list (pv 5) (pv 10) (fun _ _ => rfl)) (pa_cons (pe_ix (r := rIxL K) ix_list (pv 7) (pv 10) (fun _ _ => rfl)) pa_nil))))) (pss_one (ps_ret pe_bl)) pss_nil)
        (pss_one (ps_if (pt_cmpR op_eq (pe_op op_mod (pe_callTy call_int1 (by rfl) T.m_int PyProof.Rows.boot_int (pa_cons (pe_ix (r := rIxL K) ix_list (pv 7) (pv 10) (fun _ _ => rfl)) pa_nil)) pe_int) pe_int (nomark _)) (pss_cons (ps_set (i := 14) sc_law.nd rfl (Or.inl rfl) (pe_op op_mod (pe_ix (r := rIxL K) ix_list (pv 9) pe_int (fun _ _ => rfl)) (pe_op op_add (pe_op op_fdiv (pe_ix (r := rIxL K) ix_list (pv 7) (pv 10) (fun _ _ => rfl)) pe_int) pe_int)))
          (pss_cons (ps_set (i := 15) sc_law.nd rfl (Or.inl rfl) (pe_meth (pe_ix (r := rIxL K) ix_list (pv 5) (pv 10) (fun _ _ => rfl)) T.cl_BitReader T.me_BitReader_since (ok_BitReader_since T) (hr.mono (by decide)) T.b_BitReader_since .nil pass0 (pa_cons (pv 14) pa_nil)))
          (pss_cons (ps_if (pt_not (pt_val (pe_call (ok_law_same T) (hr.mono (by decide)) (by rfl) T.g_law_same T.F_law_same.kp T.b_law_same .nil pass0 (pa_cons (pv 15) (pa_cons (pe_slice (r := rSlL K) sl_list (pv 1) (po_some (pv 14)) (po_some (pe_op op_fdiv (pe_ix (r := rIxL K) ix_list (pv 7) (pv 10) (fun _ _ => rfl)) pe_int))) pa_nil))))) (pss_one (ps_ret pe_bl)) pss_nil)
          (pss_one (ps_expr (pe_bm PySem.F.plainAttrs_list PySem.F.slot_list_append PySem.F.type_list_append mt_append (pv 15) (pa_cons pe_int pa_nil))))))) pss_nil))))))))))))))
      (pss_one (ps_ret (pe_cmpR (op_eqD (hu64 hr)) (pv 2) (pv 1) (nomark _))))))))))))), ?_⟩
  refine q_asgC (vs := [.int (cellI ns 0), .int (cellI ns 1)]) (ea_cons (ev_cell (ev_var rfl) hS ev_c (by decide)) (ea_cons (ev_cell (ev_var rfl) hS ev_c (by decide)) ea_nil)) fun H1 e1 => ⟨_, _, rfl, fun ds pd H2 hpd e2 gd hl2 hdb => ?_⟩
  have ex2 := e1.trans e2
  have hlv : ∀ {σ : L2.St} {H1 : Hp} {te : TE} {q : Addr}, Ev te σ H1 (.ref q) → H1 q = some (.lst ((cs ds).map V.int)) → Ev (tCB (rLenS K) (tCons te tNil)) σ H1 (.int (ds.length : Int)) := fun h g => Ev.is (ev_lenS (Ev.s h (sq_of g))) (by rw [List.length_map, cs_len])
  refine q_asgL (el_of (Ev.s (ev_var rfl) (sq_of gd))) fun d H3 hd3 e3 g3 => ?_
  refine q_asgL (xs := (bI (ds.flatMap bits8)).map V.int) (el_call (ea_cons (ev_var rfl) ea_nil) fun H1 e Q q _ => ⟨pd, ds, rfl, e _ _ (e3 _ _ gd), by omega, q⟩) fun bb H4 hbb e4 g4 => ?_
  have ex4 := ex2.trans (e3.trans e4)
  refine q_asgC (vs := [.int (cellI ns 0 + 5), .int 2, .int ((ds.length : Int) + 1)]) (ea_cons (ev_I0 (ev_cell (ev_var rfl) (ex_l ex4 hS) ev_c (by decide)) ev_c) (ea_cons ev_c (ea_cons (ev_I0 (hlv (ev_var rfl) ((e3.trans e4) _ _ gd)) ev_c) ea_nil))) fun H5 e5 => ⟨_, 2, _, rfl, by decide, by decide, by omega, by omega, fun pp ns3 H6 hpp e6 g6 hl3 hns3 => ?_⟩
  have h0 := gl_get (ns := ns3) (i := 0) (by omega)
  have h1 := gl_get (ns := ns3) (i := 1) (by omega)
  obtain ⟨s0, hs0⟩ : ∃ st : Nat, ns3.getD 0 0 = (st : Int) := ⟨(ns3.getD 0 0).toNat, by have := hns3 _ (List.mem_of_getElem? h0); omega⟩
  obtain ⟨s1, hs1⟩ : ∃ st : Nat, ns3.getD 1 0 = (st : Int) := ⟨(ns3.getD 1 0).toNat, by have := hns3 _ (List.mem_of_getElem? h1); omega⟩
  have hs02 : s0 ≤ ds.length := by have := hns3 _ (List.mem_of_getElem? h0); omega
  have hs12 : s1 ≤ ds.length := by have := hns3 _ (List.mem_of_getElem? h1); omega
  rw [hs0] at h0
  rw [hs1] at h1
  have hix : ∀ {σ : L2.St} {H1 : Hp} {n : Int} (j : Nat), Ex H6 H1 → σ[4]? = some (some (.ref pp)) → ns3[j]? = some n → Ev (tOp (rIxL K) (tVar 4) (tC (.int (j : Int)))) σ H1 (.int n) := fun j e hs hj => ev_at (Ev.s (ev_var hs) (sq_of (e _ _ g6))) ev_c (at_of rfl (at_int hj))
  refine q_asgTy (fun x H7 => ∃ a0 a1 R, x = .ref R ∧ a0 ≠ a1 ∧ Ex H6 H7 ∧ RdAt T.C_BitReader H7 a0 d (8 * s0) ∧ RdAt T.C_BitReader H7 a1 d (8 * s1) ∧ H7 R = some (.lst [.ref a0, .ref a1])) (fun Q q => two_r (ea_cons (ev_var rfl) (ea_cons (hix 0 (Ex.refl _) rfl h0) ea_nil)) rfl (by omega) (ea_cons (ev_var rfl) (ea_cons (hix 1 (Ex.refl _) rfl h1) ea_nil)) rfl (by omega) fun a0 a1 R H7 ne e7 r0 r1 gR => q _ _ ⟨a0, a1, R, rfl, ne, e7, r0, r1, gR⟩) ?_
  rintro _ H7 ⟨a0, a1, R, rfl, ne, e7, r0, r1, gR⟩
  refine q_asgL (xs := [.int ((8 * 0 : Nat) : Int), .int ((8 * s0 : Nat) : Int), .int ((8 * s1 : Nat) : Int)]) (el_lst (ea_cons (ev_newplace (d := d) (n := 0) (f := fun pos => (pos : Nat)) (ea_cons (ev_var rfl) ea_nil) rfl (by omega) rfl) (ea_cons (Ev.is (ev_I ev_c (hix 0 e7 rfl h0) (.inl (by decide))) (congrArg V.int (by omega))) (ea_cons (Ev.is (ev_I ev_c (hix 1 e7 rfl h1) (.inl (by decide))) (congrArg V.int (by omega))) ea_nil))) (Nat.le_of_ble_eq_true rfl)) fun st H8 hst e8 g8 => ?_
  refine q_asgL (xs := [.int ((8 * s0 : Nat) : Int), .int ((8 * s1 : Nat) : Int)]) (el_lst (ea_cons (ev_at (Ev.s (ev_var rfl) (sq_of g8)) ev_c (at_of (j := 1) rfl rfl)) (ea_cons (ev_at (Ev.s (ev_var rfl) (sq_of g8)) ev_c (at_of (j := 2) rfl rfl)) ea_nil)) (Nat.le_of_ble_eq_true rfl)) fun P' H9 hP e9 g9 => ?_
  refine q_when (b := false) (et_test (Ev.is (ev_ne (ev_at (Ev.s (ev_var rfl) (sq_of (e9 _ _ g8))) ev_c (at_of (j := 0) rfl rfl)) ev_c rfl) (by rw [decide_eq_true (show V.int ((8 * 0 : Nat) : Int) = V.int 0 from rfl)]; rfl))) (fun hb => by cases hb) fun _ H10 e10 => ?_
  have ex10 := ((((ex4.trans e5).trans e6).trans e7).trans e8).trans (e9.trans e10)
  refine q_forL' (xs := ((ns.drop 2).take 61).map V.int) (el_mid (i := 2) (j := 63) (Ev.s (ev_var rfl) (ex_l ex10 hS)) ev_c ev_c) fun s7 H11 hs7 e11 gs7 => ?_
  have ef8 := (((e4.trans e5).trans e6).trans e7).trans e8
  have ef11 := e9.trans (e10.trans e11)
  have two0 : TwoR T.C_BitReader H11 R P' s7 d pd bb (fun j => if j = 0 then a0 else a1) (fun j => if j = 0 then 8 * s0 else 8 * s1) (fun j => if j = 0 then 8 * s0 else 8 * s1) ds (((ns.drop 2).take 61).map V.int) := by
    refine ⟨ef11 _ _ (e8 _ _ gR), (e10.trans e11) _ _ g9, fun j hj => ?_, ef11 _ _ (ef8 _ _ g3), ef11 _ _ (ef8 _ _ (e3 _ _ gd)), ef11 _ _ ((((e5.trans e6).trans e7).trans e8) _ _ g4), gs7, fun i j hi hj hij => ?_, ⟨(fresh_ne hP (e8 _ _ gR)).symm, (fresh_ne hP (ef8 _ _ g3)).symm, (fresh_ne hP (ef8 _ _ (e3 _ _ gd))).symm, (fresh_ne hP ((((e5.trans e6).trans e7).trans e8) _ _ g4)).symm, fresh_ne hs7 (e10 _ _ g9)⟩, fun j hj => ?_⟩
    · match j, hj with
      | 0, _ => exact r0.ex (e8.trans ef11)
      | 1, _ => exact r1.ex (e8.trans ef11)
    · match i, j, hi, hj with
      | 0, 0, _, _ => exact absurd rfl hij
      | 1, 1, _, _ => exact absurd rfl hij
      | 0, 1, _, _ => exact ne
      | 1, 0, _, _ => exact ne.symm
    · match j, hj with
      | 0, _ => show 8 * s0 ≤ _; omega
      | 1, _ => show 8 * s1 ≤ _; omega
  generalize (fun j => if j = 0 then a0 else a1 : Nat → Addr) = fa at two0
  generalize (fun j => if j = 0 then 8 * s0 else 8 * s1 : Nat → Nat) = fp at two0
  have hBl : (ds.flatMap bits8).length = 8 * ds.length := bits_flat_len ds
  refine q_forLn (K := K) (a := s7) ev_c (sq_of gs7) (fun i σ' H' => ∃ (fp : Nat → Nat) (z8 z9 z10 z11 z12 z13 z14 z15 : Option V), σ' = [some (.ref a), some (.ref pd), some (.ref d), some (.ref bb), some (.ref pp), some (.ref R), some (.ref st), some (.ref P'), z8, z9, z10, z11, z12, z13, z14, z15] ∧ TwoR T.C_BitReader H' R P' s7 d pd bb fa fp fp ds (((ns.drop 2).take 61).map V.int))
    (fun H12 e12 => ⟨fp, none, none, none, none, none, none, none, none, rfl, two0.ex e12⟩) (fun i σ' H' _ h => by obtain ⟨_, _, _, _, _, _, _, _, _, _, tw⟩ := h; exact sq_of tw.hs) ?_ ?_
  · rintro i x σ' H12 hx ⟨fp, z8, z9, z10, z11, z12, z13, z14, z15, rfl, tw⟩
    obtain ⟨cell, hcell, hi, rfl⟩ := int_at hx
    refine q_asgC (vs := [.int cell, .int 4, .int (1 * 2 ^ (20 : Int).toNat)]) (ea_cons (ev_var rfl) (ea_cons ev_c (ea_cons (ev_I ev_c ev_c ⟨by decide, by decide, by decide⟩) ea_nil))) fun H13 e13 => ⟨cell, 4, _, rfl, by decide, by decide, by decide, by decide, fun pn us H14 hpn e14 gn hun hus => ?_⟩
    have hpnP : pn ≠ P' := (fresh_ne hpn (tw.ex e13).hP).symm
    have tw := (tw.ex e13).ex e14
    have hu := fun (i : Nat) (h : i < 4) => gl_get (ns := us) (i := i) (by omega)
    have hub := fun (i : Nat) (h : i < 4) => hus _ (List.mem_of_getElem? (hu i h))
    have hux : ∀ {σ : L2.St} {H1 : Hp} (j : Nat) (hj : j < 4), H1 pn = some (.lst (us.map V.int)) → σ[9]? = some (some (.ref pn)) → Ev (tOp (rIxL K) (tVar 9) (tC (.int (j : Int)))) σ H1 (.int (us.getD j 0)) := fun j hj g hs => ev_at (Ev.s (ev_var hs) (sq_of g)) ev_c (at_of rfl (at_int (hu j hj)))
    have b0 := hub 0 (by decide)
    have b1 := hub 1 (by decide)
    have b2' := hub 2 (by decide)
    have b3 := hub 3 (by decide)
    have hux0 := fun {σ : L2.St} {H1 : Hp} => hux (σ := σ) (H1 := H1) 0 (by decide)
    have hux1 := fun {σ : L2.St} {H1 : Hp} => hux (σ := σ) (H1 := H1) 1 (by decide)
    have hux2 := fun {σ : L2.St} {H1 : Hp} => hux (σ := σ) (H1 := H1) 2 (by decide)
    have hux3 := fun {σ : L2.St} {H1 : Hp} => hux (σ := σ) (H1 := H1) 3 (by decide)
    generalize us.getD 0 0 = u0 at *
    generalize us.getD 1 0 = u1 at *
    generalize us.getD 2 0 = u2 at *
    generalize us.getD 3 0 = u3 at *
    obtain ⟨j, hj⟩ : ∃ j : Nat, u0 % 2 = (j : Int) := ⟨(u0 % 2).toNat, by omega⟩
    have hj2 : j < 2 := by omega
    refine q_asg (v := .int (j : Int)) (Ev.is (ev_I (hux0 gn rfl) ev_c (by decide)) (congrArg V.int hj)) fun H15 e15 => ?_
    obtain ⟨kd, hkd⟩ : ∃ j : Nat, u1 % 4 = (j : Int) := ⟨(u1 % 4).toNat, by omega⟩
    have hkd4 : kd < 4 := by omega
    refine q_asg (v := .int (kd : Int)) (Ev.is (ev_I (hux1 (e15 _ _ gn) rfl) ev_c (by decide)) (congrArg V.int hkd)) fun H16 e16 => ?_
    have e1516 := e15.trans e16
    refine q_asg (v := .int (u2 % 14)) (ev_I (hux2 (e1516 _ _ gn) rfl) ev_c (by decide)) fun H17 e17 => ?_
    have e1517 := e1516.trans e17
    obtain ⟨w1, hw1⟩ : ∃ w1 : Int, (if decide (V.int (u1 / 4 % 4) = V.int 0) = true then u2 % 65 else u2 % 14) = w1 := ⟨_, rfl⟩
    have hw1b : 0 ≤ w1 ∧ w1 ≤ 64 := by rw [← hw1]; split <;> omega
    refine q_ifAsg (b := decide (V.int (u1 / 4 % 4) = V.int 0)) (v := .int w1) (et_test (ev_eq (ev_I (ev_I (hux1 (e1517 _ _ gn) rfl) ev_c ⟨by decide, by decide⟩) ev_c (by decide)) ev_c rfl)) (fun hb => Ev.is (ev_I (hux2 (e1517 _ _ gn) rfl) ev_c (by decide)) (by rw [← hw1, if_pos hb])) (fun hb => by rw [← hw1, if_neg (by rw [hb]; decide)]; rfl) fun H18 e18 => ?_
    obtain ⟨w2, hw2⟩ : ∃ w2 : Int, (if kd = 1 then (if w1 > 1 then w1 else 1) else w1) = w2 := ⟨_, rfl⟩
    have hw2b : 0 ≤ w2 ∧ w2 ≤ 64 ∧ (kd = 1 → 1 ≤ w2) := by rw [← hw2]; split <;> (try split) <;> omega
    have hkeq : ∀ {σ : L2.St} {H1 : Hp} (c : Nat), σ[11]? = some (some (.int (kd : Int))) → EvT (tTest (tOp rEq (tVar 11) (tC (.int (c : Int))))) σ H1 (decide (kd = c)) := fun c hs => et_test (Ev.is (ev_eq (ev_var hs) ev_c rfl) (congrArg V.bl (decide_eq_decide.mpr ⟨fun h => by have := V.int.inj h; omega, fun h => by rw [h]⟩)))
    refine q_ifAsg (b := decide (kd = 1)) (v := .int w2) (hkeq 1 rfl) (fun hb => Ev.is (ev_max2 ev_c (ev_var rfl)) (by rw [← hw2, if_pos (of_decide_eq_true hb)])) (fun hb => by rw [← hw2, if_neg (of_decide_eq_false hb)]; rfl) fun H19 e19 => ?_
    obtain ⟨w3, hw3⟩ : ∃ w3 : Nat, (if (decide (kd = 3) && decide (u1 / 4 % 8 > 0)) = true then w2 % 6 else w2) = (w3 : Int) := ⟨(if (decide (kd = 3) && decide (u1 / 4 % 8 > 0)) = true then w2 % 6 else w2).toNat, by split <;> omega⟩
    have hw3b : w3 ≤ 64 ∧ (kd = 1 → 1 ≤ w3) := by
      split at hw3
      · rename_i h
        rw [Bool.and_eq_true] at h
        have := of_decide_eq_true h.1
        omega
      · omega
    have e1519 := (e1517.trans e18).trans e19
    refine q_ifAsg (b := decide (kd = 3) && decide (u1 / 4 % 8 > 0)) (v := .int (w3 : Int)) (et_and (hkeq 3 rfl) fun _ => et_test (ev_I0 (ev_I (ev_I (hux1 (e1519 _ _ gn) rfl) ev_c ⟨by decide, by decide⟩) ev_c (by decide)) ev_c)) (fun hb => Ev.is (ev_I (ev_int1 (ev_var rfl)) ev_c (by decide)) (by rw [← hw3, if_pos hb])) (fun hb => by rw [← hw3, if_neg (by rw [hb]; decide)]; rfl) fun H20 e20 => ?_
    have tw := tw.ex (e1519.trans e20)
    refine q_asgC (vs := [.ref bb, .int (fp j : Nat), .int (kd : Int), .int (w3 : Int)]) (ea_cons (ev_var rfl) (ea_cons (ev_pickN hj2 (ev_var rfl) tw.hP (ev_var rfl)) (ea_cons (ev_var rfl) (ea_cons (ev_var rfl) ea_nil)))) fun H21 e21 => ⟨bb, ds.flatMap bits8, fp j, kd, w3, rfl, (tw.ex e21).hb, by omega, by rw [hBl]; exact tw.le j hj2, hkd4, hw3b.1, hw3b.2, fun x H22 e22 hT => ?_⟩
    have tw := tw.ex (e21.trans e22)
    have hple := posOf_le (B := ds.flatMap bits8) (p := fp j) (kind := kd) (w := w3) (by rw [hBl]; exact tw.le j hj2)
    rw [hBl] at hple
    have gn22 := (((e1519.trans e20).trans e21).trans e22) _ _ gn
    refine q_whenNC (vs2 := [.ref (fa j), .int (kd : Int), .int (w3 : Int)]) (ea_cons (ev_pick hj2 (ev_var rfl) tw.hR (ev_var rfl)) (ea_cons (ev_var rfl) (ea_cons (ev_var rfl) ea_nil))) fun H23 e23 => ⟨fa j, d, ds, fp j, kd, w3, rfl, (tw.ex e23).hr j hj2, (tw.ex e23).hd, hdb, by omega, hkd4, hw3b.1, tw.le j hj2, fun y H24 hF hR24 hS24 => ?_⟩
    have tw23 := tw.ex e23
    have hT24 := (hT.ex e23).fr (tw23.hr j hj2) hF
    have gn24 := hF _ _ ((tw23.hr j hj2).ne (e23 _ _ gn22)) (e23 _ _ gn22)
    have tw24 := tw23.fr hj2 hF hR24 hple
    refine q_when (b := !true) (et_not (et_B (ev_fits ev_c (ev_var rfl) (hlv (ev_var rfl) tw24.hpd) hS24 hT24))) (fun hb => by cases hb) fun _ H25 e25 => ?_
    have tw25 := tw24.ex e25
    have hT25 := hT24.ex e25
    have gn25 := e25 _ _ gn24
    -- the place in the list follows
    refine q_cut (M := fun σ' H' => ∃ (q : Nat), σ' = [some (.ref a), some (.ref pd), some (.ref d), some (.ref bb), some (.ref pp), some (.ref R), some (.ref st), some (.ref P'), some (.int cell), some (.ref pn), some (.int (j : Int)), some (.int (kd : Int)), some (.int (w3 : Int)), some x, z14, z15] ∧ TwoR T.C_BitReader H' R P' s7 d pd bb fa (upN fp j q) (upN fp j q) ds (((ns.drop 2).take 61).map V.int) ∧ H' pn = some (.lst (us.map V.int)) ∧ H' pn = some (.lst (us.map V.int))) ?_ ?_
    · generalize dueF (ds.flatMap bits8) (fp j) kd w3 = v at hT25 tw25
      match v with
      | none =>
        have hT25 : x = .non := hT25
        subst hT25
        refine s_when (b := false) (et_test (Ev.is (ev_notN (ev_var rfl)) (congrArg V.bl (by rw [decide_eq_true rfl]; rfl)))) (fun hb => by cases hb) fun _ H26 e26 => ⟨fp j, rfl, ?_, e26 _ _ gn25, e26 _ _ gn25⟩
        have tw26 := tw25.ex e26
        have hh : upN fp j (posOf (fp j) none) = fp := upN_self
        rw [hh] at tw26
        rw [upN_self]
        exact tw26
      | some (u, e) =>
        have hx1 : ∃ t y, x = .ref t ∧ H25 t = some (.tup [y, .int (e : Int)]) := by
          match u with
          | .inl n => obtain ⟨t, h1, h2⟩ := hT25; exact ⟨t, _, h1, h2⟩
          | .inr bs => obtain ⟨t, p, h1, h2, _⟩ := hT25; exact ⟨t, _, h1, h2⟩
        obtain ⟨t, y, rfl, gt⟩ := hx1
        refine s_when (b := true) (et_test (Ev.is (ev_notN (ev_var rfl)) (congrArg V.bl (by rw [decide_eq_false (fun h => by cases h)]; rfl)))) (fun _ H26 e26 => ?_) (fun hb => by cases hb)
        have tw26 := tw25.ex e26
        refine s_setL (v := .int (e : Int)) (j := j) tw26.hP (ev_atT (ev_var rfl) (st_of (e26 _ _ gt)) ev_c (at_of (j := 1) rfl rfl)) (ev_var rfl) (ev_var rfl) (by show j < 2; exact hj2) fun H27 e27 => ?_
        have tw27 := (tw26.ex e27).set (v := e) hj2
        refine ⟨e, rfl, tw27, ?_, ?_⟩ <;> (rw [upd_ne hpnP]; exact (e26.trans e27) _ _ gn25)
    · rintro σ' H26 ⟨q, rfl, tw, gn26, _⟩
      have hq : upN fp j q j = q := upN_same
      refine q_when (b := !true) (et_not (et_B (ev_placed (ev_pick hj2 (ev_var rfl) tw.hR (ev_var rfl)) (ev_pickN hj2 (ev_var rfl) tw.hP (ev_var rfl)) (tw.hr j hj2)))) (fun hb => by cases hb) fun _ H27 e27 => ?_
      have tw := tw.ex e27
      have gn27 := e27 _ _ gn26
      generalize upN fp j q = fq at tw
      refine s_when (b := decide (fq j % 8 = 0)) (et_test (Ev.is (ev_eq (ev_I (ev_int1 (ev_pickN hj2 (ev_var rfl) tw.hP (ev_var rfl))) ev_c (by decide)) ev_c rfl) (congrArg V.bl (decide_eq_decide.mpr ⟨fun h => by have := V.int.inj h; omega, fun h => congrArg V.int (by omega)⟩)))) (fun hb H28 e28 => ?_) (fun hb H28 e28 => ?_)
      · have tw := tw.ex e28
        have gn28 := e28 _ _ gn27
        have hdv : ∀ {H1 : Hp} {σ : L2.St}, Ex H28 H1 → σ[7]? = some (some (.ref P')) → σ[10]? = some (some (.int (j : Int))) → Ev (tOp (rI CDiv fun i j => .int (i / j)) (tOp (rIxL K) (tVar 7) (tVar 10)) (tC (.int 8))) σ H1 (.int ((fq j / 8 : Nat) : Int)) := fun e h1 h2 => Ev.is (ev_I (ev_pickN hj2 (ev_var h1) (tw.ex e).hP (ev_var h2)) ev_c ⟨by decide, by decide⟩) (congrArg V.int (by show _ = ((fq j / 8 : Nat) : Int); omega))
        obtain ⟨ea, hea⟩ : ∃ ea : Nat, u3 % (((fq j / 8 : Nat) : Int) + 1) = (ea : Int) := ⟨(u3 % (((fq j / 8 : Nat) : Int) + 1)).toNat, by have := Int.emod_nonneg u3 (show (((fq j / 8 : Nat) : Int) + 1) ≠ 0 by omega); omega⟩
        refine q_asg (v := .int (ea : Int)) (Ev.is (ev_I (hux3 gn28 rfl) (ev_I0 (hdv (Ex.refl _) rfl rfl) ev_c) (by show (0 : Int) < _; omega)) (congrArg V.int hea)) fun H29 e29 => ?_
        have tw29 := tw.ex e29
        obtain ⟨dx, hx29⟩ := tw29.hr j hj2
        refine q_asgM (sp := sp_since T.C_BitReader) (m := "since") (dvs := []) (vs := [.int (ea : Int)]) (ev_pick hj2 (ev_var rfl) tw29.hR (ev_var rfl)) hx29 rfl (ea_cons (ev_var rfl) ea_nil) fun H30 e30 => ⟨fa j, d, ds, fq j, ea, rfl, (tw29.ex e30).hr j hj2, (tw29.ex e30).hd, fun pt H31 hpt e31 g31 => ?_⟩
        have tw31 := tw29.ex (e30.trans e31)
        refine q_when (b := !true) (et_not (et_B (ev_same (Ev.r (ev_var rfl) g31) (EvL.r (EvL.is (el_mid (ns := cs ds) (i := ea) (j := fq j / 8) (Ev.s (ev_var rfl) (sq_of tw31.hpd)) (ev_var rfl) (hdv ((e29.trans e30).trans e31) rfl rfl)) (by rw [cs_drop, cs_take]))) (by rw [cs_len, List.length_take, List.length_drop]; omega)))) (fun hb => by cases hb) fun _ H32 e32 => ?_
        refine s_app (v := .int 2) (e32 _ _ g31) (ev_var rfl) ev_c (by rw [List.length_map, cs_len, List.length_take, List.length_drop]; omega) fun H33 e33 => ?_
        have hpt29 : H30 pt = none := hpt
        have em : Ex H30 (upd H33 pt (.lst ((cs ((ds.drop ea).take (fq j / 8 - ea))).map V.int ++ [.int 2]))) := Ex.mut (e31.trans (e32.trans e33)) hpt29
        exact ⟨fq, _, _, _, _, _, _, _, _, rfl, (tw29.ex e30).ex em⟩
      · exact ⟨fq, _, _, _, _, _, _, _, _, rfl, tw.ex e28⟩
  · rintro σ' H12 ⟨fp, z8, z9, z10, z11, z12, z13, z14, z15, rfl, tw⟩
    refine s_ret (ev_eqI (Ev.s (ev_var rfl) (sq_of tw.hd)) (Ev.s (ev_var rfl) (sq_of tw.hpd))) fun H13 e13 => ?_
    rw [decide_eq_true rfl]
    exact k _

end
theorem all_mk {l : PySem.W.OpenLaw} {w : World} {K : PySem.W.Frag} {h : Heap} {mg : Str → Option Value} {fa : Addr} {f1 f2 f3 f4 f5 f6 f7 f8 f9 f10 f11 f12 f13 f14 f15 f16 f17 f18 f19 f20 f21 f22 f23 C_BitReader C_MonochordError C_Truncated C_InvalidForm : Addr} (X : K.In h) (G : h.Ns mainGlobals mg) (hfa : mg "law" = some (.ref fa))
    {od1 an1 : Option Addr} {sl1 : Array (Option Value)} {oc1 dc1 pm1 cd1 ct1 : Value} {kV1 : Value} {od2 an2 : Option Addr} {sl2 : Array (Option Value)} {oc2 dc2 pm2 cd2 ct2 : Value} {kV2 : Value} {DT2 : Addr} {du2_0 tc2 : Value} {td2 : Option Addr} {tn2 : Nat} {tsl2 : Array (Option Value)} {od3 an3 : Option Addr} {sl3 : Array (Option Value)} {oc3 dc3 pm3 cd3 ct3 : Value} {kV3 : Value} {od4 an4 : Option Addr} {sl4 : Array (Option Value)} {oc4 dc4 pm4 cd4 ct4 : Value} {kV4 : Value} {od5 an5 : Option Addr} {sl5 : Array (Option Value)} {oc5 dc5 pm5 cd5 ct5 : Value} {kV5 : Value} {od6 an6 : Option Addr} {sl6 : Array (Option Value)} {oc6 dc6 pm6 cd6 ct6 : Value} {kV6 : Value} {od7 an7 : Option Addr} {sl7 : Array (Option Value)} {oc7 dc7 pm7 cd7 ct7 : Value} {kV7 : Value} {od8 an8 : Option Addr} {sl8 : Array (Option Value)} {oc8 dc8 pm8 cd8 ct8 : Value} {kV8 : Value} {od9 an9 : Option Addr} {sl9 : Array (Option Value)} {oc9 dc9 pm9 cd9 ct9 : Value} {kV9 : Value} {od10 an10 : Option Addr} {sl10 : Array (Option Value)} {oc10 dc10 pm10 cd10 ct10 : Value} {kV10 : Value} {od11 an11 : Option Addr} {sl11 : Array (Option Value)} {oc11 dc11 pm11 cd11 ct11 : Value} {kV11 : Value} {od12 an12 : Option Addr} {sl12 : Array (Option Value)} {oc12 dc12 pm12 cd12 ct12 : Value} {kV12 : Value} {od13 an13 : Option Addr} {sl13 : Array (Option Value)} {oc13 dc13 pm13 cd13 ct13 : Value} {kV13 : Value} {od14 an14 : Option Addr} {sl14 : Array (Option Value)} {oc14 dc14 pm14 cd14 ct14 : Value} {kV14 : Value} {od15 an15 : Option Addr} {sl15 : Array (Option Value)} {oc15 dc15 pm15 cd15 ct15 : Value} {kV15 : Value} {od16 an16 : Option Addr} {sl16 : Array (Option Value)} {oc16 dc16 pm16 cd16 ct16 : Value} {kV16 : Value} {od17 an17 : Option Addr} {sl17 : Array (Option Value)} {oc17 dc17 pm17 cd17 ct17 : Value} {kV17 : Value} {od18 an18 : Option Addr} {sl18 : Array (Option Value)} {oc18 dc18 pm18 cd18 ct18 : Value} {kV18 : Value} {od19 an19 : Option Addr} {sl19 : Array (Option Value)} {oc19 dc19 pm19 cd19 ct19 : Value} {kV19 : Value} {od20 an20 : Option Addr} {sl20 : Array (Option Value)} {oc20 dc20 pm20 cd20 ct20 : Value} {kV20 : Value} {od21 an21 : Option Addr} {sl21 : Array (Option Value)} {oc21 dc21 pm21 cd21 ct21 : Value} {kV21 : Value} {od22 an22 : Option Addr} {sl22 : Array (Option Value)} {oc22 dc22 pm22 cd22 ct22 : Value} {kV22 : Value} {od23 an23 : Option Addr} {sl23 : Array (Option Value)} {oc23 dc23 pm23 cd23 ct23 : Value} {kV23 : Value} {xn_MonochordError xq_MonochordError : Str} {xN_MonochordError : Addr} {xb_MonochordError : List Value} {xs_MonochordError : List Str} {xu_MonochordError : List Value} {xa_MonochordError : Bool} {xc_MonochordError : Option Bool} {xd_MonochordError : Option Addr} {xj0_MonochordError xj1_MonochordError xj3_MonochordError xj5_MonochordError : Option Value} {xt_MonochordError : Tok} {xn_Truncated xq_Truncated : Str} {xN_Truncated : Addr} {xb_Truncated : List Value} {xs_Truncated : List Str} {xu_Truncated : List Value} {xa_Truncated : Bool} {xc_Truncated : Option Bool} {xd_Truncated : Option Addr} {xj0_Truncated xj1_Truncated xj3_Truncated xj5_Truncated : Option Value} {xt_Truncated : Tok} {xn_InvalidForm xq_InvalidForm : Str} {xN_InvalidForm : Addr} {xb_InvalidForm : List Value} {xs_InvalidForm : List Str} {xu_InvalidForm : List Value} {xa_InvalidForm : Bool} {xc_InvalidForm : Option Bool} {xd_InvalidForm : Option Addr} {xj0_InvalidForm xj1_InvalidForm xj3_InvalidForm xj5_InvalidForm : Option Value} {xt_InvalidForm : Tok}
    (a1 : PySem.W.findIn K (.ref C_MonochordError) "__init__" = some (some (.ref f1))) (i1 : PySem.W.isFn K (.ref f1) = true)
    (l1 : K.lookup f1 = some ⟨oc1, od1, .func (PySem.W.fnOf "__init__" "MonochordError.__init__" (defArgs s_MonochordError_init) (defBody s_MonochordError_init) (defScope s_MonochordError_init) .none kV1 dc1 pm1 an1 cd1 ct1), sl1⟩) (c1 : PySem.W.codeIn K cd1 "MonochordError.__init__" = true) (k1 : PySem.W.keepIn K (.ref f1) = true)
    (a2 : PySem.W.findIn K (.ref C_BitReader) "__init__" = some (some (.ref f2))) (i2 : PySem.W.isFn K (.ref f2) = true)
    (l2 : K.lookup f2 = some ⟨oc2, od2, .func (PySem.W.fnOf "__init__" "BitReader.__init__" (defArgs s_BitReader_init) (defBody s_BitReader_init) (defScope s_BitReader_init) (.ref DT2) kV2 dc2 pm2 an2 cd2 ct2), sl2⟩) (c2 : PySem.W.codeIn K cd2 "BitReader.__init__" = true) (k2 : PySem.W.keepIn K (.ref f2) = true)
    (t2 : K.lookup DT2 = some ⟨tc2, td2, .seq (List.toArray [du2_0]) tn2, tsl2⟩)
    (rd2_0 : RelV (V.int 0) du2_0)
    (a3 : PySem.W.findIn K (.ref C_BitReader) "read" = some (some (.ref f3))) (i3 : PySem.W.isFn K (.ref f3) = true)
    (l3 : K.lookup f3 = some ⟨oc3, od3, .func (PySem.W.fnOf "read" "BitReader.read" (defArgs s_BitReader_read) (defBody s_BitReader_read) (defScope s_BitReader_read) .none kV3 dc3 pm3 an3 cd3 ct3), sl3⟩) (c3 : PySem.W.codeIn K cd3 "BitReader.read" = true) (k3 : PySem.W.keepIn K (.ref f3) = true)
    (a4 : PySem.W.findIn K (.ref C_BitReader) "read_signed" = some (some (.ref f4))) (i4 : PySem.W.isFn K (.ref f4) = true)
    (l4 : K.lookup f4 = some ⟨oc4, od4, .func (PySem.W.fnOf "read_signed" "BitReader.read_signed" (defArgs s_BitReader_read_signed) (defBody s_BitReader_read_signed) (defScope s_BitReader_read_signed) .none kV4 dc4 pm4 an4 cd4 ct4), sl4⟩) (c4 : PySem.W.codeIn K cd4 "BitReader.read_signed" = true) (k4 : PySem.W.keepIn K (.ref f4) = true)
    (a5 : PySem.W.findIn K (.ref C_BitReader) "read_unary" = some (some (.ref f5))) (i5 : PySem.W.isFn K (.ref f5) = true)
    (l5 : K.lookup f5 = some ⟨oc5, od5, .func (PySem.W.fnOf "read_unary" "BitReader.read_unary" (defArgs s_BitReader_read_unary) (defBody s_BitReader_read_unary) (defScope s_BitReader_read_unary) .none kV5 dc5 pm5 an5 cd5 ct5), sl5⟩) (c5 : PySem.W.codeIn K cd5 "BitReader.read_unary" = true) (k5 : PySem.W.keepIn K (.ref f5) = true)
    (a6 : PySem.W.findIn K (.ref C_BitReader) "read_bytes" = some (some (.ref f6))) (i6 : PySem.W.isFn K (.ref f6) = true)
    (l6 : K.lookup f6 = some ⟨oc6, od6, .func (PySem.W.fnOf "read_bytes" "BitReader.read_bytes" (defArgs s_BitReader_read_bytes) (defBody s_BitReader_read_bytes) (defScope s_BitReader_read_bytes) .none kV6 dc6 pm6 an6 cd6 ct6), sl6⟩) (c6 : PySem.W.codeIn K cd6 "BitReader.read_bytes" = true) (k6 : PySem.W.keepIn K (.ref f6) = true)
    (a7 : PySem.W.findIn K (.ref C_BitReader) "since" = some (some (.ref f7))) (i7 : PySem.W.isFn K (.ref f7) = true)
    (l7 : K.lookup f7 = some ⟨oc7, od7, .func (PySem.W.fnOf "since" "BitReader.since" (defArgs s_BitReader_since) (defBody s_BitReader_since) (defScope s_BitReader_since) .none kV7 dc7 pm7 an7 cd7 ct7), sl7⟩) (c7 : PySem.W.codeIn K cd7 "BitReader.since" = true) (k7 : PySem.W.keepIn K (.ref f7) = true)
    (a8 : PySem.W.findIn K (.ref C_BitReader) "_rest_of_byte" = some (some (.ref f8))) (i8 : PySem.W.isFn K (.ref f8) = true)
    (l8 : K.lookup f8 = some ⟨oc8, od8, .func (PySem.W.fnOf "_rest_of_byte" "BitReader._rest_of_byte" (defArgs s_BitReader_rest_of_byte) (defBody s_BitReader_rest_of_byte) (defScope s_BitReader_rest_of_byte) .none kV8 dc8 pm8 an8 cd8 ct8), sl8⟩) (c8 : PySem.W.codeIn K cd8 "BitReader._rest_of_byte" = true) (k8 : PySem.W.keepIn K (.ref f8) = true)
    (a9 : PySem.W.findIn K (.ref C_BitReader) "byte_place" = some (some (.ref f9))) (i9 : PySem.W.isFn K (.ref f9) = true)
    (l9 : K.lookup f9 = some ⟨oc9, od9, .func (PySem.W.fnOf "byte_place" "BitReader.byte_place" (defArgs s_BitReader_byte_place) (defBody s_BitReader_byte_place) (defScope s_BitReader_byte_place) .none kV9 dc9 pm9 an9 cd9 ct9), sl9⟩) (c9 : PySem.W.codeIn K cd9 "BitReader.byte_place" = true) (k9 : PySem.W.keepIn K (.ref f9) = true)
    (a10 : PySem.W.findIn K (.ref C_BitReader) "bit_place" = some (some (.ref f10))) (i10 : PySem.W.isFn K (.ref f10) = true)
    (l10 : K.lookup f10 = some ⟨oc10, od10, .func (PySem.W.fnOf "bit_place" "BitReader.bit_place" (defArgs s_BitReader_bit_place) (defBody s_BitReader_bit_place) (defScope s_BitReader_bit_place) .none kV10 dc10 pm10 an10 cd10 ct10), sl10⟩) (c10 : PySem.W.codeIn K cd10 "BitReader.bit_place" = true) (k10 : PySem.W.keepIn K (.ref f10) = true)
    (a11 : PySem.W.findIn K (.ref C_BitReader) "aligned" = some (some (.ref f11))) (i11 : PySem.W.isFn K (.ref f11) = true)
    (l11 : K.lookup f11 = some ⟨oc11, od11, .func (PySem.W.fnOf "aligned" "BitReader.aligned" (defArgs s_BitReader_aligned) (defBody s_BitReader_aligned) (defScope s_BitReader_aligned) .none kV11 dc11 pm11 an11 cd11 ct11), sl11⟩) (c11 : PySem.W.codeIn K cd11 "BitReader.aligned" = true) (k11 : PySem.W.keepIn K (.ref f11) = true)
    (a12 : PySem.W.nsIn K mainGlobals "_law_draw" = some (some (.ref f12)))
    (l12 : K.lookup f12 = some ⟨oc12, od12, .func (PySem.W.fnOf "_law_draw" "_law_draw" (defArgs s_law_draw) (defBody s_law_draw) (defScope s_law_draw) .none kV12 dc12 pm12 an12 cd12 ct12), sl12⟩) (c12 : PySem.W.codeIn K cd12 "_law_draw" = true) (k12 : PySem.W.keepIn K (.ref f12) = true)
    (a13 : PySem.W.nsIn K mainGlobals "_law_is_integer" = some (some (.ref f13)))
    (l13 : K.lookup f13 = some ⟨oc13, od13, .func (PySem.W.fnOf "_law_is_integer" "_law_is_integer" (defArgs s_law_is_integer) (defBody s_law_is_integer) (defScope s_law_is_integer) .none kV13 dc13 pm13 an13 cd13 ct13), sl13⟩) (c13 : PySem.W.codeIn K cd13 "_law_is_integer" = true) (k13 : PySem.W.keepIn K (.ref f13) = true)
    (a14 : PySem.W.nsIn K mainGlobals "_law_same" = some (some (.ref f14)))
    (l14 : K.lookup f14 = some ⟨oc14, od14, .func (PySem.W.fnOf "_law_same" "_law_same" (defArgs s_law_same) (defBody s_law_same) (defScope s_law_same) .none kV14 dc14 pm14 an14 cd14 ct14), sl14⟩) (c14 : PySem.W.codeIn K cd14 "_law_same" = true) (k14 : PySem.W.keepIn K (.ref f14) = true)
    (a15 : PySem.W.nsIn K mainGlobals "_law_data" = some (some (.ref f15)))
    (l15 : K.lookup f15 = some ⟨oc15, od15, .func (PySem.W.fnOf "_law_data" "_law_data" (defArgs s_law_data) (defBody s_law_data) (defScope s_law_data) .none kV15 dc15 pm15 an15 cd15 ct15), sl15⟩) (c15 : PySem.W.codeIn K cd15 "_law_data" = true) (k15 : PySem.W.keepIn K (.ref f15) = true)
    (a16 : PySem.W.nsIn K mainGlobals "_law_all_bits" = some (some (.ref f16)))
    (l16 : K.lookup f16 = some ⟨oc16, od16, .func (PySem.W.fnOf "_law_all_bits" "_law_all_bits" (defArgs s_law_all_bits) (defBody s_law_all_bits) (defScope s_law_all_bits) .none kV16 dc16 pm16 an16 cd16 ct16), sl16⟩) (c16 : PySem.W.codeIn K cd16 "_law_all_bits" = true) (k16 : PySem.W.keepIn K (.ref f16) = true)
    (a17 : PySem.W.nsIn K mainGlobals "_law_number" = some (some (.ref f17)))
    (l17 : K.lookup f17 = some ⟨oc17, od17, .func (PySem.W.fnOf "_law_number" "_law_number" (defArgs s_law_number) (defBody s_law_number) (defScope s_law_number) .none kV17 dc17 pm17 an17 cd17 ct17), sl17⟩) (c17 : PySem.W.codeIn K cd17 "_law_number" = true) (k17 : PySem.W.keepIn K (.ref f17) = true)
    (a18 : PySem.W.nsIn K mainGlobals "_law_due" = some (some (.ref f18)))
    (l18 : K.lookup f18 = some ⟨oc18, od18, .func (PySem.W.fnOf "_law_due" "_law_due" (defArgs s_law_due) (defBody s_law_due) (defScope s_law_due) .none kV18 dc18 pm18 an18 cd18 ct18), sl18⟩) (c18 : PySem.W.codeIn K cd18 "_law_due" = true) (k18 : PySem.W.keepIn K (.ref f18) = true)
    (a19 : PySem.W.nsIn K mainGlobals "_law_read" = some (some (.ref f19)))
    (l19 : K.lookup f19 = some ⟨oc19, od19, .func (PySem.W.fnOf "_law_read" "_law_read" (defArgs s_law_read) (defBody s_law_read) (defScope s_law_read) .none kV19 dc19 pm19 an19 cd19 ct19), sl19⟩) (c19 : PySem.W.codeIn K cd19 "_law_read" = true) (k19 : PySem.W.keepIn K (.ref f19) = true)
    (a20 : PySem.W.nsIn K mainGlobals "_law_fits" = some (some (.ref f20)))
    (l20 : K.lookup f20 = some ⟨oc20, od20, .func (PySem.W.fnOf "_law_fits" "_law_fits" (defArgs s_law_fits) (defBody s_law_fits) (defScope s_law_fits) .none kV20 dc20 pm20 an20 cd20 ct20), sl20⟩) (c20 : PySem.W.codeIn K cd20 "_law_fits" = true) (k20 : PySem.W.keepIn K (.ref f20) = true)
    (a21 : PySem.W.nsIn K mainGlobals "_law_placed" = some (some (.ref f21)))
    (l21 : K.lookup f21 = some ⟨oc21, od21, .func (PySem.W.fnOf "_law_placed" "_law_placed" (defArgs s_law_placed) (defBody s_law_placed) (defScope s_law_placed) .none kV21 dc21 pm21 an21 cd21 ct21), sl21⟩) (c21 : PySem.W.codeIn K cd21 "_law_placed" = true) (k21 : PySem.W.keepIn K (.ref f21) = true)
    (a22 : PySem.W.nsIn K mainGlobals "_law_cell" = some (some (.ref f22)))
    (l22 : K.lookup f22 = some ⟨oc22, od22, .func (PySem.W.fnOf "_law_cell" "_law_cell" (defArgs s_law_cell) (defBody s_law_cell) (defScope s_law_cell) .none kV22 dc22 pm22 an22 cd22 ct22), sl22⟩) (c22 : PySem.W.codeIn K cd22 "_law_cell" = true) (k22 : PySem.W.keepIn K (.ref f22) = true)
    (a23 : PySem.W.nsIn K mainGlobals "law" = some (some (.ref f23)))
    (l23 : K.lookup f23 = some ⟨oc23, od23, .func (PySem.W.fnOf "law" "law" (defArgs s_law) (defBody s_law) (defScope s_law) .none kV23 dc23 pm23 an23 cd23 ct23), sl23⟩) (c23 : PySem.W.codeIn K cd23 "law" = true) (k23 : PySem.W.keepIn K (.ref f23) = true)
    (aC_BitReader : PySem.W.nsIn K mainGlobals "BitReader" = some (some (.ref C_BitReader)))
    (pg_BitReader : PySem.W.plainGet K C_BitReader Str.empty = true) (hd_BitReader : PySem.W.hasDictIn K C_BitReader = true) (po_BitReader : PySem.W.plainOver K C_BitReader = true) (sa_BitReader : PySem.W.findIn K (.ref C_BitReader) "__setattr__" = some (some (.builtin "object.__setattr__"))) (mk_BitReader : PySem.W.makesIn K C_BitReader = true) (kc_BitReader : PySem.W.keepIn K (.ref C_BitReader) = true)
    (n_BitReader_data : PySem.W.findIn K (.ref C_BitReader) "_data" = some none)
    (n_BitReader_position : PySem.W.findIn K (.ref C_BitReader) "_position" = some none)
    (aC_MonochordError : PySem.W.nsIn K mainGlobals "MonochordError" = some (some (.ref C_MonochordError)))
    (xl_MonochordError : K.lookup C_MonochordError = some (excClassObj xn_MonochordError xq_MonochordError C_MonochordError xN_MonochordError xb_MonochordError [.type "ValueError", .type "Exception", .type "BaseException", .type "object"] true xs_MonochordError xu_MonochordError xa_MonochordError xc_MonochordError xd_MonochordError xj0_MonochordError xj1_MonochordError (some (.str "MonochordError" xt_MonochordError)) xj3_MonochordError xj5_MonochordError "ValueError.__new__")) (xsa_MonochordError : PySem.W.findIn K (.ref C_MonochordError) "__setattr__" = some (some (.builtin "object.__setattr__"))) (xty_MonochordError : PySem.W.typeIn K (.ref C_MonochordError) = some (.type "type")) (xkc_MonochordError : PySem.W.keepIn K (.ref C_MonochordError) = true) (xic_MonochordError : PySem.W.findIn K (.ref C_MonochordError) "__init__" = some (some (.ref f1))) (xnp_MonochordError : PySem.W.findIn K (.ref C_MonochordError) "place" = some none) (xnn_MonochordError : PySem.W.findIn K (.ref C_MonochordError) "name" = some none) (xhg_MonochordError : PySem.W.findIn K (.ref C_MonochordError) "__getattribute__" = some (some (.builtin "BaseException.__getattribute__"))) (xhk_MonochordError : PySem.W.findIn K (.ref C_MonochordError) "__getattr__" = some none) (xhs_MonochordError : PySem.W.subIn K (.ref C_MonochordError) (.type "BaseException") = some true) (xhd_MonochordError : PySem.W.hasDictIn K C_MonochordError = true) (xha_MonochordError : PySem.W.findIn K (.ref C_MonochordError) "__class__" = some (some (.builtin "object.__class__"))) (xhn_MonochordError : PySem.W.specialIn K (.builtin "object.__class__") "__get__" = some (some (.builtin "getset_descriptor.__get__"))) (xht_MonochordError : PySem.W.takesIn K (.builtin "object.__class__") = some true) (xhm_MonochordError : PySem.W.mroIn K C_MonochordError (.type "object") = some true) (xrd_MonochordError : PySem.W.readsIn K C_MonochordError (.type "type") = true) (xfc_MonochordError : PySem.W.findCls K (.ref C_MonochordError) (.type "type") "__name__" = some (.get (.builtin "getset_descriptor.__get__") (.builtin "type.__name__") (.ref C_MonochordError) (.type "type")))
    (aC_Truncated : PySem.W.nsIn K mainGlobals "Truncated" = some (some (.ref C_Truncated)))
    (xl_Truncated : K.lookup C_Truncated = some (excClassObj xn_Truncated xq_Truncated C_Truncated xN_Truncated xb_Truncated [.ref C_MonochordError, .type "ValueError", .type "Exception", .type "BaseException", .type "object"] true xs_Truncated xu_Truncated xa_Truncated xc_Truncated xd_Truncated xj0_Truncated xj1_Truncated (some (.str "Truncated" xt_Truncated)) xj3_Truncated xj5_Truncated "ValueError.__new__")) (xsa_Truncated : PySem.W.findIn K (.ref C_Truncated) "__setattr__" = some (some (.builtin "object.__setattr__"))) (xty_Truncated : PySem.W.typeIn K (.ref C_Truncated) = some (.type "type")) (xkc_Truncated : PySem.W.keepIn K (.ref C_Truncated) = true) (xic_Truncated : PySem.W.findIn K (.ref C_Truncated) "__init__" = some (some (.ref f1))) (xnp_Truncated : PySem.W.findIn K (.ref C_Truncated) "place" = some none) (xnn_Truncated : PySem.W.findIn K (.ref C_Truncated) "name" = some none) (xhg_Truncated : PySem.W.findIn K (.ref C_Truncated) "__getattribute__" = some (some (.builtin "BaseException.__getattribute__"))) (xhk_Truncated : PySem.W.findIn K (.ref C_Truncated) "__getattr__" = some none) (xhs_Truncated : PySem.W.subIn K (.ref C_Truncated) (.type "BaseException") = some true) (xhd_Truncated : PySem.W.hasDictIn K C_Truncated = true) (xha_Truncated : PySem.W.findIn K (.ref C_Truncated) "__class__" = some (some (.builtin "object.__class__"))) (xhn_Truncated : PySem.W.specialIn K (.builtin "object.__class__") "__get__" = some (some (.builtin "getset_descriptor.__get__"))) (xht_Truncated : PySem.W.takesIn K (.builtin "object.__class__") = some true) (xhm_Truncated : PySem.W.mroIn K C_Truncated (.type "object") = some true) (xrd_Truncated : PySem.W.readsIn K C_Truncated (.type "type") = true) (xfc_Truncated : PySem.W.findCls K (.ref C_Truncated) (.type "type") "__name__" = some (.get (.builtin "getset_descriptor.__get__") (.builtin "type.__name__") (.ref C_Truncated) (.type "type")))
    (aC_InvalidForm : PySem.W.nsIn K mainGlobals "InvalidForm" = some (some (.ref C_InvalidForm)))
    (xl_InvalidForm : K.lookup C_InvalidForm = some (excClassObj xn_InvalidForm xq_InvalidForm C_InvalidForm xN_InvalidForm xb_InvalidForm [.ref C_MonochordError, .type "ValueError", .type "Exception", .type "BaseException", .type "object"] true xs_InvalidForm xu_InvalidForm xa_InvalidForm xc_InvalidForm xd_InvalidForm xj0_InvalidForm xj1_InvalidForm (some (.str "InvalidForm" xt_InvalidForm)) xj3_InvalidForm xj5_InvalidForm "ValueError.__new__")) (xsa_InvalidForm : PySem.W.findIn K (.ref C_InvalidForm) "__setattr__" = some (some (.builtin "object.__setattr__"))) (xty_InvalidForm : PySem.W.typeIn K (.ref C_InvalidForm) = some (.type "type")) (xkc_InvalidForm : PySem.W.keepIn K (.ref C_InvalidForm) = true) (xic_InvalidForm : PySem.W.findIn K (.ref C_InvalidForm) "__init__" = some (some (.ref f1))) (xnp_InvalidForm : PySem.W.findIn K (.ref C_InvalidForm) "place" = some none) (xnn_InvalidForm : PySem.W.findIn K (.ref C_InvalidForm) "name" = some none) (xhg_InvalidForm : PySem.W.findIn K (.ref C_InvalidForm) "__getattribute__" = some (some (.builtin "BaseException.__getattribute__"))) (xhk_InvalidForm : PySem.W.findIn K (.ref C_InvalidForm) "__getattr__" = some none) (xhs_InvalidForm : PySem.W.subIn K (.ref C_InvalidForm) (.type "BaseException") = some true) (xhd_InvalidForm : PySem.W.hasDictIn K C_InvalidForm = true) (xha_InvalidForm : PySem.W.findIn K (.ref C_InvalidForm) "__class__" = some (some (.builtin "object.__class__"))) (xhn_InvalidForm : PySem.W.specialIn K (.builtin "object.__class__") "__get__" = some (some (.builtin "getset_descriptor.__get__"))) (xht_InvalidForm : PySem.W.takesIn K (.builtin "object.__class__") = some true) (xhm_InvalidForm : PySem.W.mroIn K C_InvalidForm (.type "object") = some true) (xrd_InvalidForm : PySem.W.readsIn K C_InvalidForm (.type "type") = true) (xfc_InvalidForm : PySem.W.findCls K (.ref C_InvalidForm) (.type "type") "__name__" = some (.get (.builtin "getset_descriptor.__get__") (.builtin "type.__name__") (.ref C_InvalidForm) (.type "type")))
    (xti : PySem.W.typeIn K (.ref f1) = some (.type "function"))
    (xsv_MonochordError : PySem.W.subIn K (.ref C_MonochordError) (.type "ValueError") = some true)
    (xsu_MonochordError_MonochordError : PySem.W.subIn K (.ref C_MonochordError) (.ref C_MonochordError) = some true)
    (xsu_MonochordError_Truncated : PySem.W.subIn K (.ref C_MonochordError) (.ref C_Truncated) = some false)
    (xsu_MonochordError_InvalidForm : PySem.W.subIn K (.ref C_MonochordError) (.ref C_InvalidForm) = some false)
    (xsv_Truncated : PySem.W.subIn K (.ref C_Truncated) (.type "ValueError") = some true)
    (xsu_Truncated_MonochordError : PySem.W.subIn K (.ref C_Truncated) (.ref C_MonochordError) = some true)
    (xsu_Truncated_Truncated : PySem.W.subIn K (.ref C_Truncated) (.ref C_Truncated) = some true)
    (xsu_Truncated_InvalidForm : PySem.W.subIn K (.ref C_Truncated) (.ref C_InvalidForm) = some false)
    (xsv_InvalidForm : PySem.W.subIn K (.ref C_InvalidForm) (.type "ValueError") = some true)
    (xsu_InvalidForm_MonochordError : PySem.W.subIn K (.ref C_InvalidForm) (.ref C_MonochordError) = some true)
    (xsu_InvalidForm_Truncated : PySem.W.subIn K (.ref C_InvalidForm) (.ref C_Truncated) = some false)
    (xsu_InvalidForm_InvalidForm : PySem.W.subIn K (.ref C_InvalidForm) (.ref C_InvalidForm) = some true)
    (z_len : PySem.W.nsIn K mainGlobals "len" = some none)
    (z_range : PySem.W.nsIn K mainGlobals "range" = some none)
    (z_int : PySem.W.nsIn K mainGlobals "int" = some none)
    (z_isinstance : PySem.W.nsIn K mainGlobals "isinstance" = some none)
    (z_bool : PySem.W.nsIn K mainGlobals "bool" = some none)
    (z_list : PySem.W.nsIn K mainGlobals "list" = some none)
    (z_ValueError : PySem.W.nsIn K mainGlobals "ValueError" = some none)
    (z_max : PySem.W.nsIn K mainGlobals "max" = some none)
    : ∃ fd : FuncData, (∀ (s : Shared) (v : Value), BindsTo s fd ⟨[v], []⟩ [("script", v)]) ∧ ∀ base : Heap, K.In base → base.Ns mainGlobals mg → FnOk l.prog w K mg base CX0 6 fa fd ["script"] (sp_law K) := by
  have e := hfa.symm.trans (PySem.W.mg_of X G a23)
  cases e
  have F1 := fun_mk (st := s_MonochordError_init) l1 c1 k1
  have b1 := F1.binds (ps := ["self", "place"]) fun _ _ _ _ _ _ us hl => match us, hl with | [_, _], _ => rfl
  have F2 : FunD K "__init__" "BitReader.__init__" (defArgs s_BitReader_init) (defBody s_BitReader_init) (defScope s_BitReader_init) [V.int 0] [] _ _ := ⟨⟨_, _, _, _, _, _, _, _, _, _, rfl, l2, c2, (.inr ⟨by simp, DT2, _, [du2_0], tn2, rfl, t2, rfl, (.cons rd2_0 .nil)⟩), (.inl rfl)⟩, k2⟩
  obtain ⟨e3_2, v3_2, b3_2⟩ := F2.binds1 (ps := ["self", "data", "at"]) 3 1 (by simp) rfl fun T0 kV doc pm an cdv ct us its hu hi => match us, hu, its, hi with | [_, _, _], _, [_], _ => ⟨_, rfl, rfl⟩
  obtain ⟨e2_2, v2_2, b2_2⟩ := F2.binds1 (ps := ["self", "data", "at"]) 2 0 (by simp) rfl fun T0 kV doc pm an cdv ct us its hu hi => match us, hu, its, hi with | [_, _], _, [_], _ => ⟨_, rfl, rfl⟩
  have F3 := fun_mk (st := s_BitReader_read) l3 c3 k3
  have b3 := F3.binds (ps := ["self", "width"]) fun _ _ _ _ _ _ us hl => match us, hl with | [_, _], _ => rfl
  have F4 := fun_mk (st := s_BitReader_read_signed) l4 c4 k4
  have b4 := F4.binds (ps := ["self", "width"]) fun _ _ _ _ _ _ us hl => match us, hl with | [_, _], _ => rfl
  have F5 := fun_mk (st := s_BitReader_read_unary) l5 c5 k5
  have b5 := F5.binds (ps := ["self"]) fun _ _ _ _ _ _ us hl => match us, hl with | [_], _ => rfl
  have F6 := fun_mk (st := s_BitReader_read_bytes) l6 c6 k6
  have b6 := F6.binds (ps := ["self", "count"]) fun _ _ _ _ _ _ us hl => match us, hl with | [_, _], _ => rfl
  have F7 := fun_mk (st := s_BitReader_since) l7 c7 k7
  have b7 := F7.binds (ps := ["self", "place"]) fun _ _ _ _ _ _ us hl => match us, hl with | [_, _], _ => rfl
  have F8 := fun_mk (st := s_BitReader_rest_of_byte) l8 c8 k8
  have b8 := F8.binds (ps := ["self"]) fun _ _ _ _ _ _ us hl => match us, hl with | [_], _ => rfl
  have F9 := fun_mk (st := s_BitReader_byte_place) l9 c9 k9
  have b9 := F9.binds (ps := ["self"]) fun _ _ _ _ _ _ us hl => match us, hl with | [_], _ => rfl
  have F10 := fun_mk (st := s_BitReader_bit_place) l10 c10 k10
  have b10 := F10.binds (ps := ["self"]) fun _ _ _ _ _ _ us hl => match us, hl with | [_], _ => rfl
  have F11 := fun_mk (st := s_BitReader_aligned) l11 c11 k11
  have b11 := F11.binds (ps := ["self"]) fun _ _ _ _ _ _ us hl => match us, hl with | [_], _ => rfl
  have F12 := fun_mk (st := s_law_draw) l12 c12 k12
  have b12 := F12.binds (ps := ["cell", "many", "bound"]) fun _ _ _ _ _ _ us hl => match us, hl with | [_, _, _], _ => rfl
  have F13 := fun_mk (st := s_law_is_integer) l13 c13 k13
  have b13 := F13.binds (ps := ["actual"]) fun _ _ _ _ _ _ us hl => match us, hl with | [_], _ => rfl
  have F14 := fun_mk (st := s_law_same) l14 c14 k14
  have b14 := F14.binds (ps := ["actual", "expected"]) fun _ _ _ _ _ _ us hl => match us, hl with | [_, _], _ => rfl
  have F15 := fun_mk (st := s_law_data) l15 c15 k15
  have b15 := F15.binds (ps := ["cell", "more"]) fun _ _ _ _ _ _ us hl => match us, hl with | [_, _], _ => rfl
  have F16 := fun_mk (st := s_law_all_bits) l16 c16 k16
  have b16 := F16.binds (ps := ["data"]) fun _ _ _ _ _ _ us hl => match us, hl with | [_], _ => rfl
  have F17 := fun_mk (st := s_law_number) l17 c17 k17
  have b17 := F17.binds (ps := ["bits"]) fun _ _ _ _ _ _ us hl => match us, hl with | [_], _ => rfl
  have F18 := fun_mk (st := s_law_due) l18 c18 k18
  have b18 := F18.binds (ps := ["bits", "at", "kind", "width"]) fun _ _ _ _ _ _ us hl => match us, hl with | [_, _, _, _], _ => rfl
  have F19 := fun_mk (st := s_law_read) l19 c19 k19
  have b19 := F19.binds (ps := ["reader", "kind", "width"]) fun _ _ _ _ _ _ us hl => match us, hl with | [_, _, _], _ => rfl
  have F20 := fun_mk (st := s_law_fits) l20 c20 k20
  have b20 := F20.binds (ps := ["told", "due", "size"]) fun _ _ _ _ _ _ us hl => match us, hl with | [_, _, _], _ => rfl
  have F21 := fun_mk (st := s_law_placed) l21 c21 k21
  have b21 := F21.binds (ps := ["reader", "at"]) fun _ _ _ _ _ _ us hl => match us, hl with | [_, _], _ => rfl
  have F22 := fun_mk (st := s_law_cell) l22 c22 k22
  have b22 := F22.binds (ps := ["script", "k"]) fun _ _ _ _ _ _ us hl => match us, hl with | [_, _], _ => rfl
  have F23 := fun_mk (st := s_law) l23 c23 k23
  have b23 := F23.binds (ps := ["script"]) fun _ _ _ _ _ _ us hl => match us, hl with | [_], _ => rfl
  let T : TX K mg := ⟨f1, _, F1, b1, f2, _, F2, e3_2, v3_2, b3_2, e2_2, v2_2, b2_2, f3, _, F3, b3, f4, _, F4, b4, f5, _, F5, b5, f6, _, F6, b6, f7, _, F7, b7, f8, _, F8, b8, f9, _, F9, b9, f10, _, F10, b10, f11, _, F11, b11, f12, _, F12, b12, (PySem.W.mg_of X G a12), f13, _, F13, b13, (PySem.W.mg_of X G a13), f14, _, F14, b14, (PySem.W.mg_of X G a14), f15, _, F15, b15, (PySem.W.mg_of X G a15), f16, _, F16, b16, (PySem.W.mg_of X G a16), f17, _, F17, b17, (PySem.W.mg_of X G a17), f18, _, F18, b18, (PySem.W.mg_of X G a18), f19, _, F19, b19, (PySem.W.mg_of X G a19), f20, _, F20, b20, (PySem.W.mg_of X G a20), f21, _, F21, b21, (PySem.W.mg_of X G a21), f22, _, F22, b22, (PySem.W.mg_of X G a22), fa, _, F23, b23, (PySem.W.mg_of X G a23), C_BitReader, ⟨pg_BitReader, hd_BitReader, po_BitReader, sa_BitReader⟩, (PySem.W.mg_of X G aC_BitReader), ⟨mk_BitReader, a2, i2, kc_BitReader⟩, ⟨a3, i3, k3⟩, ⟨a4, i4, k4⟩, ⟨a5, i5, k5⟩, ⟨a6, i6, k6⟩, ⟨a7, i7, k7⟩, ⟨a8, i8, k8⟩, ⟨a9, i9, k9⟩, ⟨a10, i10, k10⟩, ⟨a11, i11, k11⟩, n_BitReader_data, n_BitReader_position, C_MonochordError, (PySem.W.mg_of X G aC_MonochordError), ⟨⟨_, _, _, _, _, _, _, _, _, _, _, _, _, _, _, xl_MonochordError, rfl⟩, xsa_MonochordError, xty_MonochordError, xkc_MonochordError, xic_MonochordError, xnp_MonochordError, xnn_MonochordError, ⟨xhg_MonochordError, xhk_MonochordError, xhs_MonochordError, xhd_MonochordError, xha_MonochordError, xhn_MonochordError, xht_MonochordError, xhm_MonochordError⟩, xrd_MonochordError, xfc_MonochordError⟩, C_Truncated, (PySem.W.mg_of X G aC_Truncated), ⟨⟨_, _, _, _, _, _, _, _, _, _, _, _, _, _, _, xl_Truncated, rfl⟩, xsa_Truncated, xty_Truncated, xkc_Truncated, xic_Truncated, xnp_Truncated, xnn_Truncated, ⟨xhg_Truncated, xhk_Truncated, xhs_Truncated, xhd_Truncated, xha_Truncated, xhn_Truncated, xht_Truncated, xhm_Truncated⟩, xrd_Truncated, xfc_Truncated⟩, C_InvalidForm, (PySem.W.mg_of X G aC_InvalidForm), ⟨⟨_, _, _, _, _, _, _, _, _, _, _, _, _, _, _, xl_InvalidForm, rfl⟩, xsa_InvalidForm, xty_InvalidForm, xkc_InvalidForm, xic_InvalidForm, xnp_InvalidForm, xnn_InvalidForm, ⟨xhg_InvalidForm, xhk_InvalidForm, xhs_InvalidForm, xhd_InvalidForm, xha_InvalidForm, xhn_InvalidForm, xht_InvalidForm, xhm_InvalidForm⟩, xrd_InvalidForm, xfc_InvalidForm⟩, xti, xsv_MonochordError, xsu_MonochordError_MonochordError, xsu_MonochordError_Truncated, xsu_MonochordError_InvalidForm, xsv_Truncated, xsu_Truncated_MonochordError, xsu_Truncated_Truncated, xsu_Truncated_InvalidForm, xsv_InvalidForm, xsu_InvalidForm_MonochordError, xsu_InvalidForm_Truncated, xsu_InvalidForm_InvalidForm, (PySem.W.mg_none_of X G z_len), (PySem.W.mg_none_of X G z_range), (PySem.W.mg_none_of X G z_int), (PySem.W.mg_none_of X G z_isinstance), (PySem.W.mg_none_of X G z_bool), (PySem.W.mg_none_of X G z_list), (PySem.W.mg_none_of X G z_ValueError), (PySem.W.mg_none_of X G z_max)⟩
  exact ⟨_, fun s v => .of_eq rfl, fun base _ _ => ok_law T⟩
end K02
open PySem PySem.W PyProof.Rows
set_option maxRecDepth 100000 in
set_option maxHeartbeats 0 in
theorem PySem.Challenge.cw_monochord_k02_fields_of_a_reader_holds : PySem.Challenge.rw_monochord_k02_fields_of_a_reader.Holds := by
  w_on; o_law; k_head; (case hw => w_witness2)
  k_fill
  refine L2.walk_of (l := PySem.Challenge.rw_monochord_k02_fields_of_a_reader) (n := 63) (k := 6) (x := "script") (CX := fun _ => L2.CX0) (sp := fun w => K02.sp_law _) rfl (by decide) rfl ⟨rfl, by decide, by decide⟩ (fun w h Y => PySem.W.kIn_of Y) ?F (fun _ _ a ns hl _ hS => ⟨a, ns, rfl, hS, hl, fun _ => rfl⟩) (fun _ _ _ _ _ h => h)
  case F =>
    intro w mg fa h KX G hmg
    refine' K02.all_mk KX G hmg ?a1 ?i1 ?l1 ?c1 ?k1 ?a2 ?i2 ?l2 ?c2 ?k2 ?t2 ?rd2_0 ?a3 ?i3 ?l3 ?c3 ?k3 ?a4 ?i4 ?l4 ?c4 ?k4 ?a5 ?i5 ?l5 ?c5 ?k5 ?a6 ?i6 ?l6 ?c6 ?k6 ?a7 ?i7 ?l7 ?c7 ?k7 ?a8 ?i8 ?l8 ?c8 ?k8 ?a9 ?i9 ?l9 ?c9 ?k9 ?a10 ?i10 ?l10 ?c10 ?k10 ?a11 ?i11 ?l11 ?c11 ?k11 ?a12 ?l12 ?c12 ?k12 ?a13 ?l13 ?c13 ?k13 ?a14 ?l14 ?c14 ?k14 ?a15 ?l15 ?c15 ?k15 ?a16 ?l16 ?c16 ?k16 ?a17 ?l17 ?c17 ?k17 ?a18 ?l18 ?c18 ?k18 ?a19 ?l19 ?c19 ?k19 ?a20 ?l20 ?c20 ?k20 ?a21 ?l21 ?c21 ?k21 ?a22 ?l22 ?c22 ?k22 ?a23 ?l23 ?c23 ?k23 ?aC_BitReader ?pg_BitReader ?hd_BitReader ?po_BitReader ?sa_BitReader ?mk_BitReader ?kc_BitReader ?n_BitReader_data ?n_BitReader_position ?aC_MonochordError ?xl_MonochordError ?xsa_MonochordError ?xty_MonochordError ?xkc_MonochordError ?xic_MonochordError ?xnp_MonochordError ?xnn_MonochordError ?xhg_MonochordError ?xhk_MonochordError ?xhs_MonochordError ?xhd_MonochordError ?xha_MonochordError ?xhn_MonochordError ?xht_MonochordError ?xhm_MonochordError ?xrd_MonochordError ?xfc_MonochordError ?aC_Truncated ?xl_Truncated ?xsa_Truncated ?xty_Truncated ?xkc_Truncated ?xic_Truncated ?xnp_Truncated ?xnn_Truncated ?xhg_Truncated ?xhk_Truncated ?xhs_Truncated ?xhd_Truncated ?xha_Truncated ?xhn_Truncated ?xht_Truncated ?xhm_Truncated ?xrd_Truncated ?xfc_Truncated ?aC_InvalidForm ?xl_InvalidForm ?xsa_InvalidForm ?xty_InvalidForm ?xkc_InvalidForm ?xic_InvalidForm ?xnp_InvalidForm ?xnn_InvalidForm ?xhg_InvalidForm ?xhk_InvalidForm ?xhs_InvalidForm ?xhd_InvalidForm ?xha_InvalidForm ?xhn_InvalidForm ?xht_InvalidForm ?xhm_InvalidForm ?xrd_InvalidForm ?xfc_InvalidForm ?xti ?xsv_MonochordError ?xsu_MonochordError_MonochordError ?xsu_MonochordError_Truncated ?xsu_MonochordError_InvalidForm ?xsv_Truncated ?xsu_Truncated_MonochordError ?xsu_Truncated_Truncated ?xsu_Truncated_InvalidForm ?xsv_InvalidForm ?xsu_InvalidForm_MonochordError ?xsu_InvalidForm_Truncated ?xsu_InvalidForm_InvalidForm ?z_len ?z_range ?z_int ?z_isinstance ?z_bool ?z_list ?z_ValueError ?z_max
    (case aC_BitReader => k_is)
    (case aC_MonochordError => k_is)
    (case aC_Truncated => k_is)
    (case aC_InvalidForm => k_is)
    (case a1 => k_is)
    (case i1 => k_is)
    (case l1 => k_is)
    (case c1 => k_is)
    (case k1 => k_is)
    (case a2 => k_is)
    (case i2 => k_is)
    (case l2 => k_is)
    (case c2 => k_is)
    (case k2 => k_is)
    (case t2 => k_is)
    (case rd2_0 => first | rfl | exact ⟨_, rfl⟩)
    (case a3 => k_is)
    (case i3 => k_is)
    (case l3 => k_is)
    (case c3 => k_is)
    (case k3 => k_is)
    (case a4 => k_is)
    (case i4 => k_is)
    (case l4 => k_is)
    (case c4 => k_is)
    (case k4 => k_is)
    (case a5 => k_is)
    (case i5 => k_is)
    (case l5 => k_is)
    (case c5 => k_is)
    (case k5 => k_is)
    (case a6 => k_is)
    (case i6 => k_is)
    (case l6 => k_is)
    (case c6 => k_is)
    (case k6 => k_is)
    (case a7 => k_is)
    (case i7 => k_is)
    (case l7 => k_is)
    (case c7 => k_is)
    (case k7 => k_is)
    (case a8 => k_is)
    (case i8 => k_is)
    (case l8 => k_is)
    (case c8 => k_is)
    (case k8 => k_is)
    (case a9 => k_is)
    (case i9 => k_is)
    (case l9 => k_is)
    (case c9 => k_is)
    (case k9 => k_is)
    (case a10 => k_is)
    (case i10 => k_is)
    (case l10 => k_is)
    (case c10 => k_is)
    (case k10 => k_is)
    (case a11 => k_is)
    (case i11 => k_is)
    (case l11 => k_is)
    (case c11 => k_is)
    (case k11 => k_is)
    (case a12 => k_is)
    (case l12 => k_is)
    (case c12 => k_is)
    (case k12 => k_is)
    (case a13 => k_is)
    (case l13 => k_is)
    (case c13 => k_is)
    (case k13 => k_is)
    (case a14 => k_is)
    (case l14 => k_is)
    (case c14 => k_is)
    (case k14 => k_is)
    (case a15 => k_is)
    (case l15 => k_is)
    (case c15 => k_is)
    (case k15 => k_is)
    (case a16 => k_is)
    (case l16 => k_is)
    (case c16 => k_is)
    (case k16 => k_is)
    (case a17 => k_is)
    (case l17 => k_is)
    (case c17 => k_is)
    (case k17 => k_is)
    (case a18 => k_is)
    (case l18 => k_is)
    (case c18 => k_is)
    (case k18 => k_is)
    (case a19 => k_is)
    (case l19 => k_is)
    (case c19 => k_is)
    (case k19 => k_is)
    (case a20 => k_is)
    (case l20 => k_is)
    (case c20 => k_is)
    (case k20 => k_is)
    (case a21 => k_is)
    (case l21 => k_is)
    (case c21 => k_is)
    (case k21 => k_is)
    (case a22 => k_is)
    (case l22 => k_is)
    (case c22 => k_is)
    (case k22 => k_is)
    (case a23 => k_is)
    (case l23 => k_is)
    (case c23 => k_is)
    (case k23 => k_is)
    (case pg_BitReader => k_is)
    (case hd_BitReader => k_is)
    (case po_BitReader => k_is)
    (case sa_BitReader => k_is)
    (case mk_BitReader => k_is)
    (case kc_BitReader => k_is)
    (case n_BitReader_data => k_is)
    (case n_BitReader_position => k_is)
    (case xl_MonochordError => k_is)
    (case xsa_MonochordError => k_is)
    (case xty_MonochordError => k_is)
    (case xkc_MonochordError => k_is)
    (case xic_MonochordError => k_is)
    (case xnp_MonochordError => k_is)
    (case xnn_MonochordError => k_is)
    (case xhg_MonochordError => k_is)
    (case xhk_MonochordError => k_is)
    (case xhs_MonochordError => k_is)
    (case xhd_MonochordError => k_is)
    (case xha_MonochordError => k_is)
    (case xhn_MonochordError => k_is)
    (case xht_MonochordError => k_is)
    (case xhm_MonochordError => k_is)
    (case xrd_MonochordError => k_is)
    (case xfc_MonochordError => k_is)
    (case xl_Truncated => k_is)
    (case xsa_Truncated => k_is)
    (case xty_Truncated => k_is)
    (case xkc_Truncated => k_is)
    (case xic_Truncated => k_is)
    (case xnp_Truncated => k_is)
    (case xnn_Truncated => k_is)
    (case xhg_Truncated => k_is)
    (case xhk_Truncated => k_is)
    (case xhs_Truncated => k_is)
    (case xhd_Truncated => k_is)
    (case xha_Truncated => k_is)
    (case xhn_Truncated => k_is)
    (case xht_Truncated => k_is)
    (case xhm_Truncated => k_is)
    (case xrd_Truncated => k_is)
    (case xfc_Truncated => k_is)
    (case xl_InvalidForm => k_is)
    (case xsa_InvalidForm => k_is)
    (case xty_InvalidForm => k_is)
    (case xkc_InvalidForm => k_is)
    (case xic_InvalidForm => k_is)
    (case xnp_InvalidForm => k_is)
    (case xnn_InvalidForm => k_is)
    (case xhg_InvalidForm => k_is)
    (case xhk_InvalidForm => k_is)
    (case xhs_InvalidForm => k_is)
    (case xhd_InvalidForm => k_is)
    (case xha_InvalidForm => k_is)
    (case xhn_InvalidForm => k_is)
    (case xht_InvalidForm => k_is)
    (case xhm_InvalidForm => k_is)
    (case xrd_InvalidForm => k_is)
    (case xfc_InvalidForm => k_is)
    (case xti => k_is)
    (case xsv_MonochordError => k_is)
    (case xsu_MonochordError_MonochordError => k_is)
    (case xsu_MonochordError_Truncated => k_is)
    (case xsu_MonochordError_InvalidForm => k_is)
    (case xsv_Truncated => k_is)
    (case xsu_Truncated_MonochordError => k_is)
    (case xsu_Truncated_Truncated => k_is)
    (case xsu_Truncated_InvalidForm => k_is)
    (case xsv_InvalidForm => k_is)
    (case xsu_InvalidForm_MonochordError => k_is)
    (case xsu_InvalidForm_Truncated => k_is)
    (case xsu_InvalidForm_InvalidForm => k_is)
    (case z_len => k_is)
    (case z_range => k_is)
    (case z_int => k_is)
    (case z_isinstance => k_is)
    (case z_bool => k_is)
    (case z_list => k_is)
    (case z_ValueError => k_is)
    (case z_max => k_is)
