import PyProof.Rows.All
import Wide.All
import OpenK.AllK
import Wide.FinOn
import HandS.ForMost
import HandS.Steps
import HandS.Evl
import HandS.IsInst
import HandS.Wide
import HandS.Walk
import HandS.TryOnly
import HandS.Text
import PyProof.P3Eq
import HandS.ForExc
import HandS.ExcInit
import HandS.ExcIs
import HandS.ExcField
import HandS.ExcOwn
import HandS.ExcBuiltin
import HandS.ExcCtx
import HandS.HotCalls
import HandS.WordsExc
import KE.KTypeName
import PySem.Challenge.RW_monochord_k49_text_faults
set_option Elab.async false
set_option linter.all false
set_option maxRecDepth 100000
set_option maxHeartbeats 4000000
/-! ### own errors: the class's name, an error's class, its fields, isinstance -/
namespace PySem
namespace ExqW
open PySem.W PySem.Calls PyProof.Rows Builtin Builtin.ObjectAttr Builtin.Getset_descriptor
section
variable {prog : Program} {w : World} {A : Around} {E : Value → Shared → Prop} {s : Shared} {K : Frag} {x D C : Addr} {ox : Obj} {R : Result → Shared → Prop}
theorem exq_class {od : Option Obj} {expr : Bool} {Q : Value → Shared → Prop} (hga : findIn K (.ref D) "__getattribute__" = some (some (.builtin "BaseException.__getattribute__"))) (hgt : findIn K (.ref D) "__getattr__" = some none) (hsub : subIn K (.ref D) (.type "BaseException") = some true)
    (hf : findObj K D od "__class__" = some (.bind (.builtin "getset_descriptor.__get__") (.builtin "object.__class__"))) (hm : mroIn K D (.type "object") = some true)
    (X : K.In s.heap) (I : InstAt s.heap x ox D od) (h : Q (.ref D) { s with toks := s.toks + 1 }) : wpAny (model prog w) A (getAttr (.ref x) "__class__" expr) Q E s := by
  obtain ⟨hp, g, d, t, os⟩ := s
  have L0 := I.type (M := model prog w)
  have L1 := looks_findIn (M := model prog w) X hga
  have L2 := looks_findIn (M := model prog w) X hgt
  have L3 := looks_find (M := model prog w) X I hf
  have sub : Looks (model prog w) hp (isInstance (.ref x) (.type "BaseException")) true := L0.andThen (looks_subIn X hsub)
  have hx0 : (expr && onTheHeap (Value.builtin "BaseException.__getattribute__")) = false := by cases expr <;> rfl
  have hx2 : (Value.builtin "BaseException.__getattribute__" == Value.builtin "object.__getattribute__") = false := by decide +kernel
  have hx1 : (onTheHeap (Value.ref D) && Value.builtin "BaseException.__getattribute__" == Value.builtin "object.__getattribute__") = false := by rw [hx2]; rfl
  unfold getAttr getAttrBy
  refine wpAny_bind (wpAny_mkText (wpAny_holding (wpAny_bind (L0.at (wpAny_bind (L1.at ?_))))))
  show wpAny _ _ (if (onTheHeap (Value.ref D) && Value.builtin "BaseException.__getattribute__" == Value.builtin "object.__getattribute__") = true then _ else _) _ _ _
  rw [hx1, if_neg Bool.false_ne_true]
  unfold getAttrByItsOwn hookBefore
  refine wpAny_bind ?_
  rw [if_pos (show onTheHeap (Value.ref D) = true from rfl)]
  refine L2.at ?_
  refine wpAny_bind (wpAny_attempt (wpAny_holding ?_))
  unfold callGetattribute
  rw [hx0, if_neg Bool.false_ne_true]
  unfold boundAndCalled
  rw [PySem.F.excAttr_ValueError.ga.bind (.ref x)]
  refine wpAny_bind (wpAny_pure ?_)
  show wpAny _ _ (call (.builtin "BaseException.__getattribute__") [.ref x, .str "__class__" t]) _ _ _
  refine wpAny_call (codeAny_call_builtin PySem.F.excAttr_ValueError.ga.plain PySem.F.entry_bexc_ga ?_)
  refine @check_slot (model prog w) _ _ ⟨hp, g, d, t + 1, os⟩ "BaseException.__getattribute__" "BaseException" "__getattribute__" (.ref x) [.str "__class__" t] [] _ (by decide +kernel) (by decide +kernel) sub (PySem.F.args_bexc_ga (.ref x) (.str "__class__" t)) ?_
  unfold Builtin.«object.__getattribute__»
  refine wpAny_bind (wpAny_of_eq (a := ((Value.ref x : Value), [Value.str "__class__" t])) (by first | rfl | (simp only [slotArgs]; rfl)) ?_)
  refine wpAny_bind (wpAny_pure (wpAny_bind (L0.at (wpAny_bind (L3.at ?_)))))
  show wpAny _ _ (holding [Value.builtin "object.__class__"] (call (.builtin "getset_descriptor.__get__") [.builtin "object.__class__", .ref x, .ref D]) >>= ret) _ _ _
  refine wpAny_bind (wpAny_holding (wpAny_call (class_get (s := ⟨hp, g, d, t + 1, os⟩) (ox := ox) (od := od) X I hm ?_)))
  refine wpAny_pure ?_
  show wpAny _ _ (handedOut (.ref D)) _ _ _
  rw [handedOut_of (v := .ref D) rfl]
  first
    | exact wpAny_pure (wpAny_pure h)
    | exact wpAny_pure h
    | exact wpAny_pure (wpAny_bind (wpAny_pure (wpAny_pure h)))
theorem exq_classQ {od : Option Obj} {Q : Option Value → Shared → Prop} (hga : findIn K (.ref D) "__getattribute__" = some (some (.builtin "BaseException.__getattribute__"))) (hgt : findIn K (.ref D) "__getattr__" = some none) (hsub : subIn K (.ref D) (.type "BaseException") = some true)
    (hf : findObj K D od "__class__" = some (.bind (.builtin "getset_descriptor.__get__") (.builtin "object.__class__"))) (hm : mroIn K D (.type "object") = some true)
    (X : K.In s.heap) (I : InstAt s.heap x ox D od) (h : Q (some (.ref D)) { s with toks := s.toks + 1 }) : wpAny (model prog w) A (getAttr? (.ref x) "__class__") Q E s := by
  obtain ⟨hp, g, d, t, os⟩ := s
  have L0 := I.type (M := model prog w)
  have L1 := looks_findIn (M := model prog w) X hga
  have L2 := looks_findIn (M := model prog w) X hgt
  have L3 := looks_find (M := model prog w) X I hf
  have sub : Looks (model prog w) hp (isInstance (.ref x) (.type "BaseException")) true := L0.andThen (looks_subIn X hsub)
  have hx0 : (false && onTheHeap (Value.builtin "BaseException.__getattribute__")) = false := rfl
  have hx2 : (Value.builtin "BaseException.__getattribute__" == Value.builtin "object.__getattribute__") = false := by decide +kernel
  have hx1 : (onTheHeap (Value.ref D) && Value.builtin "BaseException.__getattribute__" == Value.builtin "object.__getattribute__") = false := by rw [hx2]; rfl
  unfold getAttr? getAttrBy? getAttrBy
  refine wpAny_bind (wpAny_mkText (wpAny_bind (wpAny_attempt (wpAny_holding (wpAny_bind (L0.at (wpAny_bind (L1.at ?_))))))))
  show wpAny _ _ (if (onTheHeap (Value.ref D) && Value.builtin "BaseException.__getattribute__" == Value.builtin "object.__getattribute__") = true then _ else _) _ _ _
  rw [hx1, if_neg Bool.false_ne_true]
  unfold getAttrByItsOwn hookBefore
  refine wpAny_bind ?_
  rw [if_pos (show onTheHeap (Value.ref D) = true from rfl)]
  refine L2.at ?_
  refine wpAny_bind (wpAny_attempt (wpAny_holding ?_))
  unfold callGetattribute
  rw [hx0, if_neg Bool.false_ne_true]
  unfold boundAndCalled
  rw [PySem.F.excAttr_ValueError.ga.bind (.ref x)]
  refine wpAny_bind (wpAny_pure ?_)
  show wpAny _ _ (call (.builtin "BaseException.__getattribute__") [.ref x, .str "__class__" t]) _ _ _
  refine wpAny_call (codeAny_call_builtin PySem.F.excAttr_ValueError.ga.plain PySem.F.entry_bexc_ga ?_)
  refine @check_slot (model prog w) _ _ ⟨hp, g, d, t + 1, os⟩ "BaseException.__getattribute__" "BaseException" "__getattribute__" (.ref x) [.str "__class__" t] [] _ (by decide +kernel) (by decide +kernel) sub (PySem.F.args_bexc_ga (.ref x) (.str "__class__" t)) ?_
  unfold Builtin.«object.__getattribute__»
  refine wpAny_bind (wpAny_of_eq (a := ((Value.ref x : Value), [Value.str "__class__" t])) (by first | rfl | (simp only [slotArgs]; rfl)) ?_)
  refine wpAny_bind (wpAny_pure (wpAny_bind (L0.at (wpAny_bind (L3.at ?_)))))
  show wpAny _ _ (holding [Value.builtin "object.__class__"] (call (.builtin "getset_descriptor.__get__") [.builtin "object.__class__", .ref x, .ref D]) >>= ret) _ _ _
  refine wpAny_bind (wpAny_holding (wpAny_call (class_get (s := ⟨hp, g, d, t + 1, os⟩) (ox := ox) (od := od) X I hm ?_)))
  refine wpAny_pure ?_
  show wpAny _ _ (handedOut (.ref D)) _ _ _
  rw [handedOut_of (v := .ref D) rfl]
  first
    | exact wpAny_pure (wpAny_pure h)
    | exact wpAny_pure h
    | exact wpAny_pure (wpAny_bind (wpAny_pure (wpAny_pure h)))
theorem exq_dga (d tp : Value) (C : Addr) : descrGetArgs ⟨[d, .ref C, tp], []⟩ = pure (d, some (.ref C), given tp) := by kernel_rfl
theorem exq_name_get {tp v : Value} {oC : Obj} (X : K.In s.heap) (ht : typeIn K (.ref C) = some (.type "type")) (hC : K.lookup C = some oC) (hv : (oC.slots[2]?).join = some v) (h : R (.ok (.ret v)) s) :
    codeAny (model prog w) A (.call (.builtin "getset_descriptor.__get__") ⟨[.builtin "type.__name__", .ref C, tp], []⟩) R s := by
  obtain ⟨hh, g, dr, t, os⟩ := s
  have L0 : Looks (model prog w) hh (typeOf (.ref C)) (.type "type") := looks_typeIn X ht
  have L1 : Looks (model prog w) hh (isSubtype (.type "type") (.type "type")) true := Looks.of_pure (by rw [isSubtype_type]; kernel_rfl)
  refine codeAny_call_builtin KF.slot_gs.plain KF.entry_gs (KF.slot_gs.check _ _ _ _ _ _ _ _ ktyn_type (KF.args_gs _ _ _) ?_)
  unfold Builtin.«getset_descriptor.__get__» descrGet
  rw [exq_dga]
  refine wpAny_bind (wpAny_pure ?_)
  unfold descrGetter descrCheckInstance descrNameAndClass isInstance
  simp only [ktyn_owner]
  repeat lk
  refine ⟨Code.quiet_builtin _ (by decide +kernel), codeAny_builtin ktyn_entry ?_⟩
  unfold Builtin.«type.__name__»
  dsimp only
  unfold Builtin.keptObject slotAt
  dsimp only
  refine wpAny_bind (wpAny_bind (wpAny_loadPart (X _ _ hC) (wpAny_pure ?_)))
  rw [hv]
  dsimp only
  unfold ret
  first
    | exact wpAny_bind (wpAny_pure (wpAny_pure h))
    | exact wpAny_pure h
    | exact wpAny_bind (wpAny_pure h)
theorem exq_name {oC : Obj} {v : Value} {expr : Bool} {Q : Value → Shared → Prop} (X : K.In s.heap) (hr : readsIn K C (.type "type") = true)
    (e : findCls K (.ref C) (.type "type") "__name__" = some (.get (.builtin "getset_descriptor.__get__") (.builtin "type.__name__") (.ref C) (.type "type"))) (ht : typeIn K (.ref C) = some (.type "type")) (hC : K.lookup C = some oC) (hv : (oC.slots[2]?).join = some v) (hh : handedIn v = true)
    (h : Q v { s with toks := s.toks + 1 }) : wpAny (model prog w) A (getAttr (.ref C) "__name__" expr) Q E s :=
  cls_bind X hr e (wpAny_call (exq_name_get (s := { s with toks := s.toks + 1 }) X ht hC hv (handed_on hh h)))
theorem exq_kitx {od : Option Obj} (hga : findIn K (.ref D) "__getattribute__" = some (some (.builtin "BaseException.__getattribute__"))) (hgt : findIn K (.ref D) "__getattr__" = some none) (hsub : subIn K (.ref D) (.type "BaseException") = some true) (hdct : hasDictIn K D = true)
    (hf : findObj K D od "__class__" = some (.bind (.builtin "getset_descriptor.__get__") (.builtin "object.__class__"))) (hm : mroIn K D (.type "object") = some true) :
    KitX K (.ref x) (.ref D) (fun h => InstAt h x ox D od) where
  ty := fun _ _ _ I => I.type
  it := fun _ _ X _ => by
    obtain ⟨cdD, hcD, _⟩ := any_some hdct
    unfold clsIn at hcD
    split at hcD
    · rename_i c' d' cd' sl' ho
      intro A' Q' E' s' k q
      unfold isType loadHead
      exact wpAny_bind (wpAny_loadPart (k _ _ (X _ _ ho)) (wpAny_pure q))
    · cases hcD
  ne := fun h tp dd its n sl X htp => by
    obtain ⟨cdD, hcD, _⟩ := any_some hdct
    refine Bool.eq_false_iff.mpr fun q => ?_
    have e : D = tp := Value.ref.inj (beq_iff_eq.mp q)
    subst e
    unfold clsIn at hcD
    split at hcD
    · rename_i c' d' cd' sl' ho
      have z := (X _ _ ho).symm.trans htp
      cases z
    · cases hcD
  ca := fun X I k => exq_classQ hga hgt hsub hf hm X I k
end
end ExqW
end PySem
namespace L2
open PySem PySem.Spec PyProof.Rows
/-- what the written part says of an own error class at C (its name nm), whose __init__ stands at fI -/
structure ExK (K : PySem.W.Frag) (C fI : Addr) (nm : Str) : Prop where
  cls : ∃ n q N bs bm sn sub ab col dd k0 k1 tk k3 k5, K.lookup C = some (excClassObj n q C N bs bm true sn sub ab col dd k0 k1 (some (.str nm tk)) k3 k5 "ValueError.__new__") ∧ PySem.HandSPX.refsVE bm = true
  sa : PySem.W.findIn K (.ref C) "__setattr__" = some (some (.builtin "object.__setattr__"))
  tyC : PySem.W.typeIn K (.ref C) = some (.type "type")
  kC : PySem.W.keepIn K (.ref C) = true
  iC : PySem.W.findIn K (.ref C) "__init__" = some (some (.ref fI))
  nP : PySem.W.findIn K (.ref C) "place" = some none
  nN : PySem.W.findIn K (.ref C) "name" = some none
  ex : ExcC K C
  rd : PySem.W.readsIn K C (.type "type") = true
  fc : PySem.W.findCls K (.ref C) (.type "type") "__name__" = some (.get (.builtin "getset_descriptor.__get__") (.builtin "type.__name__") (.ref C) (.type "type"))
section
variable {K : PySem.W.Frag} {C fI : Addr} {nm : Str}
theorem ExK.ox (T : ExK K C fI nm) : OexC K C := by
  obtain ⟨n, q, N, bs, bm, sn, sub, ab, col, dd, k0, k1, tk, k3, k5, h1, h2⟩ := T.cls
  exact ⟨⟨n, q, N, bs, bm, sn, sub, ab, col, dd, k0, k1, _, k3, k5, h1, h2⟩, T.sa, T.ex.hs, T.tyC, T.kC⟩
theorem ExK.xf (T : ExK K C fI nm) : XfC K C := ⟨T.ex.hg, T.ex.hk, T.ex.hs, T.ex.hd⟩
end
theorem ExcC.fo {K : PySem.W.Frag} {C : Addr} (T : ExcC K C) (od : Obj) : PySem.W.findObj K C (some od) "__class__" = some (.bind (.builtin "getset_descriptor.__get__") (.builtin "object.__class__")) :=
  PySem.W.findObj_data (by obtain ⟨cd, hc, _⟩ := PySem.W.any_some T.hd; show (PySem.W.clsIn K C).isSome = true; rw [hc]; rfl) T.ha T.hn T.ht
/-- self.__class__.__name__ of an error that is being made -/
def tCN (K : PySem.W.Frag) (te : TE) : TE := fun σ H Q => te σ H fun x H1 => ∃ (a C dx : Addr) (fs : List (Str × V)) (fI : Addr) (nm : Str), x = .ref a ∧ ExK K C fI nm ∧ H1 a = some (exo a C (some dx)) ∧ H1 dx = some (exd dx fs) ∧ Q (.str nm) H1
theorem pe_clsname {X : Cx} {o : Expr} {te : TE} {p1 p2 : Pos} (he : PE X o te) (hb1 : attributeBase o "__class__" X.env (eval o X.env) = eval o X.env := by rfl)
    (hb2 : attributeBase (.Attribute o "__class__" p1) "__name__" X.env (eval (.Attribute o "__class__" p1) X.env) = eval (.Attribute o "__class__" p1) X.env := by rfl) :
    PE X (.Attribute (.Attribute o "__class__" p1) "__name__" p2) (tCN X.K te) := by
  refine ⟨fun pins s σ H Q I h => ?_⟩
  refine attr_of hb2 (attr_of hb1 (thn (he.run pins s σ H _ I h) fun u s1 ⟨x, H1, I1, rx, a, C, dx, fs, fI, nm, ex, T, ea, ed, q⟩ => ?_))
  subst ex
  obtain rfl : u = Value.ref a := rx
  obtain ⟨t1, ho⟩ := exo_at I1.hok ea
  obtain ⟨mA, hns, rel⟩ := exd_at I1.hok ed
  obtain ⟨oD, _, _, hoD, _, _⟩ := id hns
  have J : PySem.W.InstAt s1.heap a { cls := .ref C, dict := some dx, data := .fields #[.ref t1, .none, .none, .none, .bool false, .none] } C (some oD) := ⟨ho, rfl, rfl, hoD⟩
  obtain ⟨n, qq, N, bs, bm, sn, sub, ab, col, dd, k0, k1, tk, k3, k5, hC, hbm⟩ := T.cls
  refine PySem.ExqW.exq_class T.ex.hg T.ex.hk T.ex.hs (T.ex.fo oD) T.ex.hm I1.kIn J ?_
  refine PySem.ExqW.exq_name (s := { s1 with toks := s1.toks + 1 }) I1.kIn T.rd T.fc T.tyC hC rfl rfl ?_
  exact ⟨.str nm, H1, I1.tok _, ⟨tk, rfl⟩, q⟩
/-- error.f in an except suite: the class is known when it runs -/
def tXfA (K : PySem.W.Frag) (a : Addr) (cls : Value) (d : Option Addr) (f : Str) (te : TE) : TE := fun σ H Q => te σ H fun x H1 => x = .ref a ∧ ∃ C, cls = .ref C ∧ XfC K C ∧ PySem.W.findIn K (.ref C) f = some none ∧ ∃ (dd : Addr) (fs : List (Str × V)) (v : V), d = some dd ∧ H1 dd = some (.xd fs) ∧ fs.lookup f = some v ∧ Q v H1
theorem pe_xfA {X : Cx} {a : Addr} {oe : Obj} {cls : Value} {d : Option Addr} {pn : List (Addr × Obj)} {e : Expr} {te : TE} {pos : Pos} {n : Str}
    (hz : Zc cls d oe) (hf : ∃ vs, oe.data = .fields vs) (he : PE (X.suite a ((a, oe) :: pn)) e te) (hb : attributeBase e n X.env (eval e X.env) = eval e X.env := by rfl) :
    PE (X.suite a ((a, oe) :: pn)) (.Attribute e n pos) (tXfA X.K a cls d n te) := by
  refine ⟨fun pins s σ H Q I h => ?_⟩
  refine attr_of hb (thn (he.run pins s σ H _ I h) fun u s1 hh => ?_)
  obtain ⟨x, H1, I1, rx, ex, C, ec, T, hno, dd, fs, v, ed, ea, l, q⟩ := hh
  subst ex
  obtain rfl : u = Value.ref a := rx
  subst ec
  subst ed
  obtain ⟨ha, _⟩ := I1.pin (a, oe) (List.mem_append_left _ List.mem_cons_self)
  obtain ⟨vs, hd⟩ := hf
  have hx : ObjOk X.prog X.w H1 s1.heap dd (.xd fs) := I1.hok dd _ ea
  obtain ⟨mA, hns, hr⟩ := hx
  obtain ⟨od, ho, hl⟩ := lookIn_ns hns
  obtain ⟨u, hu, ru⟩ := RelO.some_of (v := v) (o := mA n) (by rw [← l]; exact hr n)
  have J : PySem.W.InstAt s1.heap a oe C (some od) := ⟨ha, hz.1, by unfold PySem.W.notCls; rw [hd] <;> rfl, by rw [hz.2]; exact ho⟩
  exact HandSPX.exc_get I1.kIn J T.ga T.gg T.exC (PySem.W.findObj_own T.hdC hno rfl (by rw [hl, hu])) (handed_of ru) ⟨v, H1, I1.tok _, ru, q⟩
/-- isinstance(error, c) in an except suite -/
def rIsA (K : PySem.W.Frag) (cls : Value) (d : Option Addr) (a : Addr) : List V → Hp → VK → Prop := fun xs H Q => ∃ (C : Addr) (c : V) (cv : Value) (b : Bool) (dd : Addr) (fs : List (Str × V)), cls = .ref C ∧ ExcC K C ∧ d = some dd ∧ H dd = some (.xd fs) ∧ xs = [.ref a, c] ∧ (∀ u, RelV c u → u = cv) ∧ PySem.W.kitOne K (.ref C) cv = some b ∧ Q (.bl b) H
theorem call_isA {X : Cx} {a : Addr} {oe : Obj} {cls : Value} {d : Option Addr} {pn : List (Addr × Obj)} (hz : Zc cls d oe) (hf : ∃ vs, oe.data = .fields vs) : CallR (X.suite a ((a, oe) :: pn)) (.builtin "isinstance") (rIsA X.K cls d a) := by
  intro pins s σ H xs us Q I r h
  obtain ⟨C, c, cv, b, dd, fs, ec, T, ed, ea, rfl, hcv, e, q⟩ := h
  subst ec
  subst ed
  cases r with
  | cons rx rr =>
    cases rr with
    | cons rt rr =>
      cases rr
      cases rx
      have ecv := hcv _ rt
      subst ecv
      obtain ⟨hget, _⟩ := I.pin (a, oe) (List.mem_append.mpr (.inl List.mem_cons_self))
      obtain ⟨vs, hv⟩ := hf
      have hx : ObjOk X.prog X.w H s.heap dd (.xd fs) := I.hok dd _ ea
      obtain ⟨mA, ⟨od, es, ep, ho, hl⟩, hr⟩ := hx
      have J : PySem.W.InstAt s.heap a oe C (some od) := ⟨hget, hz.1, by unfold PySem.W.notCls; rw [hv] <;> rfl, by rw [hz.2]; exact ho⟩
      exact PySem.W.kia_one (PySem.ExqW.exq_kitx T.hg T.hk T.hs T.hd (T.fo od) T.hm) I.kIn J e (fun z => nomatch z) fun tk => ⟨.bl b, H, I.kept (t' := tk) fun _ _ z => z, rfl, q⟩
/-! ### calls that may let an error out -/
section
variable {X : Cx} {CX : CXT} {k : Nat} {f C : Addr} {fd : FuncData} {ps : List Str} {sp : Sp} {dvs : List V} {ds : List Value} {E : St → XK} {x m : Str} {p pos apos : Pos} {e o : Expr} {es : List Expr} {ta : TE} {t : TA}
theorem run_fnD {pins : List (Addr × Obj)} {σ : St} {H : Hp} {s : Shared} {Q : VK} {us : List Value} {vs : List V} (F : FnOk X.prog X.w X.K X.mg X.base CX k f fd ps sp) (hr : Room k X.A) (hb : Binds X.K fd ps ds) (hd : Vals dvs ds) (hx : PassesAt CX X σ (E σ))
    (I : Inv X pins σ H s) (r : Vals vs us) (h : sp (vs ++ dvs) H Q (E σ)) : wpAny (model X.prog X.w) X.A (call (.ref f) us) (EP X pins σ Q) X.xe s := by
  have r2 : Vals (vs ++ dvs) (us ++ ds) := r.append hd
  have hl : (us ++ ds).length = ps.length := by rw [← r2.length]; exact F.len _ _ _ _ h
  refine wpAny_call (codeAny_mono (F.run X.A X.stack s H ⟨us, []⟩ (us ++ ds) (vs ++ dvs) Q (E σ) hr I.env0 (hb s us I.kIn hl) r2 h) fun r s' hq => ?_)
  cases r with
  | error e => exact hx pins H s e s' I hq
  | ok fl =>
    cases fl with
    | ret u => exact I.after hq
    | next => exact False.elim hq
    | brk => exact False.elim hq
    | cont => exact False.elim hq
def tCallX (sp : Sp) (dvs : List V) (E : St → XK) (t : TA) : TE := fun σ H Q => t σ H fun vs H1 => sp (vs ++ dvs) H1 Q (E σ)
theorem pe_callX (F : FnOk X.prog X.w X.K X.mg X.base CX k f fd ps sp) (hr : Room k X.A) (hg : Gl X x) (hm : X.mg x = some (.ref f)) (hk : PySem.W.keepIn X.K (.ref f) = true) (hb : Binds X.K fd ps ds) (hd : Vals dvs ds) (hx : ∀ σ, PassesAt CX X σ (E σ))
    (ha : PA X (e :: es) t) (hdb : (x == ("__debug__" : Str)) = false := by decide) (he : starEach (e :: es) X.env = (false, eval e X.env) :: starEach es X.env := by rfl) (hpl : (backTo pos (starEach es X.env)).any (·.1) = false := by rfl) :
    PE X (.Call (.Name x p) (e :: es) [] pos) (tCallX sp dvs E t) := by
  refine ⟨fun pins s σ H Q I h => ?_⟩
  refine wpAny_Call_Name_kw (ld_glob I hg hm ?_ hdb)
  refine PySem.W.callWith_K (h₀ := X.base) I.ok.mod.kin hk (thn (ha.run pos pins s σ H _ I h) fun us s1 ⟨vs, H1, I1, r, q⟩ => ⟨I1.kIn, ?_⟩) he hpl
  exact run_fnD F hr hb hd (hx σ) I1 r q
/-- o.m(..) -/
def tMethX (C : Addr) (m : Str) (sp : Sp) (dvs : List V) (E : St → XK) (ta : TE) (t : TA) : TE := fun σ H Q => ta σ H fun x H1 => ∃ a dx fs, x = .ref a ∧ H1 a = some (.ins C dx fs) ∧ fs.lookup m = none ∧
  t σ H1 fun vs H2 => sp (x :: (vs ++ dvs)) H2 Q (E σ)
theorem pe_methX {pl : Sem Bool} (he : PE X o ta) (c : Cls X.K C) (hm : Meth X.K C m f) (F : FnOk X.prog X.w X.K X.mg X.base CX k f fd ps sp) (hr : Room k X.A) (hb : Binds X.K fd ps ds) (hd : Vals dvs ds) (hx : ∀ σ, PassesAt CX X σ (E σ)) (ha : PA X (e :: es) t)
    (hst : starEach (e :: es) X.env = (false, eval e X.env) :: starEach es X.env := by rfl) (hpl : (backTo pos (starEach es X.env)).any (·.1) = false := by rfl)
    (ht : eval (.Call (.Attribute o m apos) (e :: es) [] pos) X.env = (do
      let ov ← eval o X.env
      standAt apos.atName
      let (f, first) ← holding [ov] (getMethod ov m pl)
      callWith pos f first (backTo pos (starEach (e :: es) X.env)) (backToKw pos (keywordEach [] X.env))) := by rfl) :
    PE X (.Call (.Attribute o m apos) (e :: es) [] pos) (tMethX C m sp dvs E ta t) := by
  refine ⟨fun pins s σ H Q I h => ?_⟩
  refine PySem.W.methodCall_KW (pl := pl) (thn (he.run pins s σ H _ I h) fun u s1 ⟨x, H1, I1, rx, a, dx, fs, ex, ea, l, q⟩ => ?_) ht
  subst ex
  obtain rfl : u = Value.ref a := rx
  refine getmeth_ok I1 ea c hm l ?_
  refine PySem.W.callWith_K (first := [.ref a]) (h₀ := X.base) I.ok.mod.kin hm.kp (thn (ha.run pos pins s1 σ H1 _ I1 q) fun us s2 ⟨vs, H2, I2, r, q2⟩ => ⟨I2.kIn, ?_⟩) hst hpl
  exact run_fnD (us := .ref a :: us) (vs := .ref a :: vs) F hr hb hd (hx σ) I2 (.cons rfl r) q2
theorem pe_methX0 {pl : Sem Bool} (he : PE X o ta) (c : Cls X.K C) (hm : Meth X.K C m f) (F : FnOk X.prog X.w X.K X.mg X.base CX k f fd ps sp) (hr : Room k X.A) (hb : Binds X.K fd ps ds) (hd : Vals dvs ds) (hx : ∀ σ, PassesAt CX X σ (E σ))
    (ht : eval (.Call (.Attribute o m apos) [] [] pos) X.env = (do
      let ov ← eval o X.env
      standAt apos.atName
      let (f, first) ← holding [ov] (getMethod ov m pl)
      callWith pos f first (backTo pos (starEach [] X.env)) (backToKw pos (keywordEach [] X.env))) := by rfl) :
    PE X (.Call (.Attribute o m apos) [] [] pos) (tMethX C m sp dvs E ta tNil) := by
  refine ⟨fun pins s σ H Q I h => ?_⟩
  refine PySem.W.methodCall_KW (pl := pl) (thn (he.run pins s σ H _ I h) fun u s1 ⟨x, H1, I1, rx, a, dx, fs, ex, ea, l, q⟩ => ?_) ht
  subst ex
  obtain rfl : u = Value.ref a := rx
  refine getmeth_ok I1 ea c hm l ?_
  exact PySem.W.callWith_K0 (first := [.ref a]) I1.kIn hm.kp (run_fnD (us := [.ref a]) (vs := [.ref a]) F hr hb hd (hx σ) I1 (.cons rfl .nil) q)
end
/-! ### readings -/
def ErrD (H : Hp) (d : Addr) (nm : Str) (n : Int) : Prop := H d = some (.xd [("name", .str nm), ("place", .int n)])
theorem ErrD.ex {H H' : Hp} {d : Addr} {nm : Str} {n : Int} (e : Evl.Ex H H') (h : ErrD H d nm n) : ErrD H' d nm n := e _ _ h
def sp_einit (K : PySem.W.Frag) : Sp := fun vs H Q _ => ∃ (a C fI : Addr) (nm : Str) (n : Int), vs = [.ref a, .int n] ∧ ExK K C fI nm ∧ H a = some (exo a C none) ∧
  ∀ dx H', H dx = none → dx ≠ a → (∀ b o, b ≠ a → H b = some o → H' b = some o) → H' a = some (exo a C (some dx)) → H' dx = some (exd dx [("name", .str nm), ("place", .int n)]) → Q .non H'
theorem mk_err {K : PySem.W.Frag} {C fI : Addr} {nm : Str} {σ : St} {H : Hp} {ta : TA} {n : Int} {Q : XK} (T : ExK K C fI nm) (h : Evl.EvA ta σ H [.int n]) (k : ∀ H' d, H d = none → Evl.Ex H H' → ErrD H' d nm n → Q (.ref C) (some d) H') : tMkO C (sp_einit K) [] ta σ H Q := by
  refine h H (Evl.Ex.refl H) _ fun H1 e1 => ⟨Nat.le_of_ble_eq_true rfl, fun a ha => ⟨a, C, fI, nm, n, rfl, T, upd_same, fun dx H2 hdx ne keep h2a h2d => ⟨rfl, dx, _, h2a, h2d, by rwa [upd_ne ne] at hdx, ?_⟩⟩⟩
  have hdx1 : H1 dx = none := by rwa [upd_ne ne] at hdx
  refine k _ dx (by cases hh : H dx with | none => rfl | some o => rw [e1 _ _ hh] at hdx1; cases hdx1) (fun b o hb => ?_) upd_same
  have hb1 := e1 _ _ hb
  have nb : b ≠ a := fun z => by rw [z, ha] at hb1; cases hb1
  have nd : b ≠ dx := fun z => by rw [z, hdx1] at hb1; cases hb1
  rw [upd_ne nd, del_ne nb]
  exact keep b o nb (by rw [upd_ne nb]; exact hb1)
end L2
namespace L2
open PySem PySem.Spec PyProof.Rows
/-! ### errors whose context is kept (L2N): calls within an except suite -/
theorem passN {X : Cx} : Passes (L2N.CX X.prog X.w) X E0 := fun _ _ _ _ _ _ _ h => by
  obtain ⟨_, _, _, _, _, _, _, _, _, _, _, _, z⟩ := h
  exact z.elim
theorem passH0 {X : Cx} {σ : St} : PassesAt CX0 X σ E0 := fun _ _ _ _ _ _ h => h.elim
theorem takesN0 {X : Cx} : L2N.Takes X (fun _ _ _ _ => False) := fun _ _ x => by
  obtain ⟨_, _, _, _, _, _, _, _, _, _, _, _, _, _, _, _, z⟩ := x
  exact z.elim
section
variable {P : Program} {w : World} {K : PySem.W.Frag} {mg : Str → Option Value} {base : Heap}
theorem Fun.okN {x qual : Str} {st : Stmt} {f : Addr} {fd : FuncData} {N ps : List Str} {k : Nat} {sp : Sp} (F : Fun K x qual st f fd) (S : FnScope N ps (defScope st)) (len : ∀ vs H Q E, sp vs H Q E → vs.length = ps.length)
    (hbody : ∀ (cdv : Value) (A : Around) (outer : List Env) (s : Shared) (H : Hp) (vs : List V) (Q : VK) (E : XK), Room k (A.deeper (envOfC qual (defScope st) s.heap.objs.size f cdv)) → sp vs H Q E →
      ∃ t, PSs (cxOf (L2N.CX P w) P w K mg base N qual (defScope st) f cdv A outer s H E) (defBody st) t ∧ t { nx := fun _ H' => Q .non H', rt := Q } (start N vs) H) : FnOk P w K mg base (L2N.CX P w) (k + 1) f fd ps sp := by
  obtain ⟨_, _, _, _, _, _, cdv, _, _, rfl, lk, hcd⟩ := F.ex
  exact fn_of lk hcd S len fun A outer s H vs Q E => hbody cdv A outer s H vs Q E
/-- a def that is called while an exception is handled -/
theorem Fun.okH {x qual : Str} {st : Stmt} {f : Addr} {fd : FuncData} {N ps : List Str} {k : Nat} {sp : Sp} (F : Fun K x qual st f fd) (S : FnScope N ps (defScope st)) (len : ∀ vs H Q E, sp vs H Q E → vs.length = ps.length)
    (hbody : ∀ (cdv : Value) (A : Around) (outer : List Env) (s : Shared) (H : Hp) (vs : List V) (Q : VK) (E : XK) (p : Addr × Obj), L2H.RoomH k (A.deeper (envOfC qual (defScope st) s.heap.objs.size f cdv)) → sp vs H Q E →
      ∃ t, PSs (L2H.cxH CX0 P w K mg base N qual (defScope st) f cdv A outer s H E p) (defBody st) t ∧ t { nx := fun _ H' => Q .non H', rt := Q } (start N vs) H) : L2H.FnH P w K mg base CX0 (k + 1) f fd ps sp := by
  obtain ⟨_, _, _, _, _, _, cdv, _, _, rfl, lk, hcd⟩ := F.ex
  exact L2H.fn_ofH lk hcd S len fun A outer s H vs Q E p _ hr hsp => hbody cdv A outer s H vs Q E p hr hsp
end
theorem hot_of {X : Cx} {a : Addr} {oe : Obj} {cls : Value} {d : Option Addr} {pn : List (Addr × Obj)} (hz : L2N.Zn cls d oe) (hf : ∃ vs, oe.data = .fields vs) : L2H.HotC (X.suite a ((a, oe) :: pn)) := by
  obtain ⟨vs, e⟩ := hf
  exact ⟨(a, oe), ⟨rfl, vs, e, hz.2.2 vs e⟩, List.mem_cons_self⟩
theorem roomH_suite {X : Cx} {a : Addr} {pn : List (Addr × Obj)} {j k : Nat} (r : Room k X.A) (h : j ≤ k) : L2H.RoomH j (X.suite a pn).A := ⟨by have := r.dp; show X.A.depth + _ + 5 < _; omega, by have := r.un; show X.A.units + _ + 200 < _; omega⟩
section
variable {X : Cx} {CX : CXT} {k : Nat} {f C : Addr} {fd : FuncData} {ps : List Str} {sp : Sp} {dvs : List V} {ds : List Value} {E : St → XK} {x m : Str} {p pos apos : Pos} {e o : Expr} {es : List Expr} {ta : TE} {t : TA}
/-- o.m() while an exception is handled -/
theorem pe_methH0 {pl : Sem Bool} (he : PE X o ta) (c : Cls X.K C) (hm : Meth X.K C m f) (F : L2H.FnH X.prog X.w X.K X.mg X.base CX k f fd ps sp) (hr : L2H.RoomH k X.A) (hc : L2H.HotC X) (hb : Binds X.K fd ps []) (hx : ∀ σ, PassesAt CX X σ (E σ))
    (ht : eval (.Call (.Attribute o m apos) [] [] pos) X.env = (do
      let ov ← eval o X.env
      standAt apos.atName
      let (f, first) ← holding [ov] (getMethod ov m pl)
      callWith pos f first (backTo pos (starEach [] X.env)) (backToKw pos (keywordEach [] X.env))) := by rfl) :
    PE X (.Call (.Attribute o m apos) [] [] pos) (tMethX C m sp [] E ta tNil) := by
  refine ⟨fun pins s σ H Q I h => ?_⟩
  refine PySem.W.methodCall_KW (pl := pl) (thn (he.run pins s σ H _ I h) fun u s1 ⟨x, H1, I1, rx, a, dx, fs, ex, ea, l, q⟩ => ?_) ht
  subst ex
  obtain rfl : u = Value.ref a := rx
  refine getmeth_ok I1 ea c hm l ?_
  exact PySem.W.callWith_K0 (first := [.ref a]) I1.kIn hm.kp (L2H.run_fnH (us := [.ref a]) (vs := [.ref a]) F hr hc hb (hx σ) I1 (.cons rfl .nil) q)
/-- C(e, ..): an own error, made where nothing is handled -/
theorem pmkN_oex {CX : CXT} {x : Str} {C fI : Addr} {k : Nat} {fd : FuncData} {ps : List Str} {sp : Sp} {ds : List Value} {dvs : List V} (T : OexC X.K C) (iC : PySem.W.findIn X.K (.ref C) "__init__" = some (some (.ref fI))) (tI : PySem.W.typeIn X.K (.ref fI) = some (.type "function"))
    (F1 : FnOk X.prog X.w X.K X.mg X.base CX k fI fd ps sp) (hr : Room (k + 1) X.A) (hb : Binds X.K fd ps ds) (hd : Vals dvs ds) (hx : Passes CX X (fun _ _ _ => False)) (hg : Gl X x) (hm : X.mg x = some (.ref C)) (ha : PA X (e :: es) t)
    (hdb : (x == ("__debug__" : Str)) = false := by decide) (he : starEach (e :: es) X.env = (false, eval e X.env) :: starEach es X.env := by rfl) (hpl : (backTo pos (starEach es X.env)).any (·.1) = false := by rfl) :
    L2N.PMk X (.Call (.Name x p) (e :: es) [] pos) (tMkO C sp dvs t) := fun pins s σ H Q I h => by
  obtain ⟨_, _, _, _, bm, _, _, _, _, _, _, _, _, _, _, hC, hbm⟩ := T.cls
  refine wpAny_Call_Name_kw (ld_glob I hg hm (PySem.W.callWith_K (h₀ := X.base) I.ok.mod.kin T.kC (thn (ha.run pos pins s σ H _ I h) fun us s1 ⟨vs, H1, I1, r1, hz, q1⟩ => ⟨I1.kIn, ?_⟩) he hpl) hdb)
  show wpAny _ _ (call (.ref C) us) _ _ _
  obtain ⟨hp, g, dr, tk, os⟩ := s1
  obtain ⟨i, hi⟩ : ∃ i, i = hp.objs.size + 1 := ⟨_, rfl⟩
  have hsz : hp.objs.size ≤ i := by omega
  have hq := q1 i (I1.hok.fresh hsz)
  obtain ⟨G, hG⟩ : ∃ G, G = (hp.push (PySem.W.kdv_tup us)).push (PySem.HandSPX.excO C hp.objs.size) := ⟨_, rfl⟩
  have kk : ∀ b o, hp.get? b = some o → G.get? b = some o := fun b o z => by rw [hG]; exact Heap.get?_push_of_some _ (Heap.get?_push_of_some _ z)
  have I2 : Inv X pins σ (upd H1 i (exo i C none)) ⟨G, g, dr, tk, os⟩ := I1.laid (t' := tk) kk hsz (exo_ok (by rw [hG, hi]; heap_get))
  have r2 : Vals (V.ref i :: (vs ++ dvs)) (Value.ref i :: (us ++ ds)) := .cons rfl (r1.append hd)
  have hl : (Value.ref i :: us ++ ds).length = ps.length := (r2.length.symm.trans (F1.len _ _ _ _ hq))
  refine wpAny_call (PySem.HandSPX.call_own F.excBase_ValueError (fun Y => PySem.HandSPX.refsVE_contains Y bm hbm) (I1.kIn _ _ hC) (PySem.W.looks_findIn I1.kIn iC) (fun self => PySem.W.bind_fn I1.kIn self tI) (by rw [← Paired.length r1, sizeLine_eq]; omega) ?_)
  have F2 := F1.run _ X.stack _ _ ⟨Value.ref i :: us, []⟩ (Value.ref i :: (us ++ ds)) _ _ (fun _ _ _ => False) (hr.make C us []) (I2.env0.make C us []) (hb _ (Value.ref i :: us) I2.kIn hl) r2 hq
  subst hi
  subst hG
  refine codeAny_mono F2 fun r s' hq' => ?_
  cases r with
  | error er => exact hx pins σ _ _ er s' I2 hq'
  | ok fl =>
    cases fl with
    | ret u =>
      obtain ⟨v, H2, os2, bare2, un2, hok2, rv, ev, d, fs, ea, ed, hd1, q2⟩ := hq'
      subst ev
      obtain ⟨h2, g2, d2, t2, os'⟩ := s'
      obtain ⟨t0, G', J, kG, ge, hoe, na⟩ := mk_end0 (d2 := d2) (t2 := t2) I1 hsz kk un2 hok2 os2 bare2 ea ed hd1
      exact ⟨rv, _, _, _, ⟨G', g2, d2, t2, os'⟩, _, .ref C, some d, rfl, J, kG, ge, hoe, ⟨rfl, rfl, fun ws hw => by cases hw; rfl⟩, rfl, rfl, na, rfl, bare2, raises_own T.exC T.tyC, q2⟩
    | next => exact False.elim hq'
    | brk => exact False.elim hq'
    | cont => exact False.elim hq'
end
end L2

namespace K49
open PySem PySem.Spec PyProof.Rows L2 Evl
def topS (i : Nat) : Stmt := PySem.Challenge.pw_monochord_k49_text_faults.main.body.getD i (.Pass ⟨0, 0, 0, 0⟩)
abbrev s_MonochordError_init : Stmt := inClass (topS 1) 0
theorem sc_MonochordError_init : FnScope ["self", "place"] ["self", "place"] (defScope s_MonochordError_init) := ⟨rfl, rfl, rfl, by decide +kernel, rfl, by decide +kernel, by decide +kernel⟩
abbrev s_read_utf8 : Stmt := topS 4
theorem sc_read_utf8 : FnScope ["data", "start", "stop", "text", "place", "count"] ["data", "start", "stop"] (defScope s_read_utf8) := ⟨rfl, rfl, rfl, by decide +kernel, rfl, by decide +kernel, by decide +kernel⟩
abbrev s_point_count : Stmt := topS 5
theorem sc_point_count : FnScope ["point"] ["point"] (defScope s_point_count) := ⟨rfl, rfl, rfl, by decide +kernel, rfl, by decide +kernel, by decide +kernel⟩
abbrev s_least_first : Stmt := topS 6
theorem sc_least_first : FnScope ["count"] ["count"] (defScope s_least_first) := ⟨rfl, rfl, rfl, by decide +kernel, rfl, by decide +kernel, by decide +kernel⟩
abbrev s_count_told : Stmt := topS 7
theorem sc_count_told : FnScope ["first", "count"] ["first"] (defScope s_count_told) := ⟨rfl, rfl, rfl, by decide +kernel, rfl, by decide +kernel, by decide +kernel⟩
abbrev s_read_point : Stmt := topS 8
theorem sc_read_point : FnScope ["data", "place", "count", "point", "further"] ["data", "place", "count"] (defScope s_read_point) := ⟨rfl, rfl, rfl, by decide +kernel, rfl, by decide +kernel, by decide +kernel⟩
abbrev s_law_is_integer : Stmt := topS 10
theorem sc_law_is_integer : FnScope ["actual"] ["actual"] (defScope s_law_is_integer) := ⟨rfl, rfl, rfl, by decide +kernel, rfl, by decide +kernel, by decide +kernel⟩
abbrev s_law_refill : Stmt := topS 11
theorem sc_law_refill : FnScope ["script", "k", "cell"] ["script", "k"] (defScope s_law_refill) := ⟨rfl, rfl, rfl, by decide +kernel, rfl, by decide +kernel, by decide +kernel⟩
abbrev s_law_draw : Stmt := topS 12
theorem sc_law_draw : FnScope ["state", "script", "size", "digit"] ["state", "script", "size"] (defScope s_law_draw) := ⟨rfl, rfl, rfl, by decide +kernel, rfl, by decide +kernel, by decide +kernel⟩
abbrev s_law_junk : Stmt := topS 14
theorem sc_law_junk : FnScope ["state", "script", "count", "k"] ["state", "script", "count"] (defScope s_law_junk) := ⟨rfl, rfl, rfl, by decide +kernel, rfl, by decide +kernel, by decide +kernel⟩
abbrev s_law_piece : Stmt := topS 17
theorem sc_law_piece : FnScope ["state", "script", "kind", "head", "piece", "k", "byte"] ["state", "script"] (defScope s_law_piece) := ⟨rfl, rfl, rfl, by decide +kernel, rfl, by decide +kernel, by decide +kernel⟩
abbrev s_law_length : Stmt := topS 18
theorem sc_law_length : FnScope ["first"] ["first"] (defScope s_law_length) := ⟨rfl, rfl, rfl, by decide +kernel, rfl, by decide +kernel, by decide +kernel⟩
abbrev s_law_sequence : Stmt := topS 19
theorem sc_law_sequence : FnScope ["data", "at", "stop", "length", "byte", "point"] ["data", "at", "stop"] (defScope s_law_sequence) := ⟨rfl, rfl, rfl, by decide +kernel, rfl, by decide +kernel, by decide +kernel⟩
abbrev s_law_expected : Stmt := topS 20
theorem sc_law_expected : FnScope ["data", "start", "stop", "text", "at", "k", "found"] ["data", "start", "stop"] (defScope s_law_expected) := ⟨rfl, rfl, rfl, by decide +kernel, rfl, by decide +kernel, by decide +kernel⟩
abbrev s_law_outcome : Stmt := topS 21
theorem sc_law_outcome : FnScope ["data", "start", "stop", "e"] ["data", "start", "stop"] (defScope s_law_outcome) := ⟨rfl, rfl, rfl, by decide +kernel, rfl, by decide +kernel, by decide +kernel⟩
abbrev s_law : Stmt := topS 22
theorem sc_law : FnScope ["script", "state", "body", "k", "before", "data", "stop"] ["script"] (defScope s_law) := ⟨rfl, rfl, rfl, by decide +kernel, rfl, by decide +kernel, by decide +kernel⟩
theorem hu64 {A : Around} {k : Nat} (hr : Room k A) : A.units + 64 < cLine := hr.units
/-! ### short words for readings -/
theorem ret_eq {v w : V} {H H' : Hp} {Q : VK} (k : RetV v H Q) (ex : Ex H H') (e : w = v) : Q w H' := e ▸ k H' ex
/-- isinstance(x, T), T a built-in class -/
theorem ev_isi {K : PySem.W.Frag} {σ : L2.St} {H : Hp} {ta : TE} {x : V} {t : String} {T : String} {b : Bool} (ha : Ev ta σ H x) (ht : ∀ H1, Ex H H1 → TyX K H1 x (.type t)) (hk : kitB t T = some b) :
    Ev (tCB (rIsi K) (tCons ta (tCons (tC (.ty T)) tNil))) σ H (.bl b) :=
  ev_cb (ea_cons ha (ea_cons ev_c ea_nil)) fun H1 e Q q => ⟨x, .ty T, _, _, b, rfl, .ty T, ht H1 e, kit_ty hk, q H1 (Ex.refl H1)⟩
theorem isi_int {K : PySem.W.Frag} {H : Hp} {i : Int} : ∀ H1, Ex H H1 → TyX K H1 (V.int i) (.type "int") := fun _ _ => .base (.int _)
theorem isi_bl {K : PySem.W.Frag} {H : Hp} {b : Bool} : ∀ H1, Ex H H1 → TyX K H1 (V.bl b) (.type "bool") := fun _ _ => .base (.bl _)
theorem isi_non {K : PySem.W.Frag} {H : Hp} : ∀ H1, Ex H H1 → TyX K H1 V.non (.type "NoneType") := fun _ _ => .base .non
theorem isi_lst {K : PySem.W.Frag} {H : Hp} {a : Addr} {xs : List V} (h : H a = some (.lst xs)) : ∀ H1, Ex H H1 → TyX K H1 (V.ref a) (.type "list") := fun _ e => .base (.lst (e _ _ h))
theorem isi_tup {K : PySem.W.Frag} {H : Hp} {a : Addr} {xs : List V} (h : H a = some (.tup xs)) : ∀ H1, Ex H H1 → TyX K H1 (V.ref a) (.type "tuple") := fun _ e => .base (.tup (e _ _ h))
theorem kit_ii : kitB "int" "int" = some true := by decide +kernel
theorem kit_ib : kitB "int" "bool" = some false := by decide +kernel
theorem kit_bb : kitB "bool" "bool" = some true := by decide +kernel
theorem kit_bi : kitB "bool" "int" = some true := by decide +kernel
theorem kit_ll : kitB "list" "list" = some true := by decide +kernel
theorem kit_tt : kitB "tuple" "tuple" = some true := by decide +kernel
theorem ev_isiI {K : PySem.W.Frag} {σ : L2.St} {H : Hp} {ta : TE} {i : Int} (ha : Ev ta σ H (.int i)) : Ev (tCB (rIsi K) (tCons ta (tCons (tC (.ty "int")) tNil))) σ H (.bl true) := ev_isi ha isi_int kit_ii
theorem ev_isiB {K : PySem.W.Frag} {σ : L2.St} {H : Hp} {ta : TE} {i : Int} (ha : Ev ta σ H (.int i)) : Ev (tCB (rIsi K) (tCons ta (tCons (tC (.ty "bool")) tNil))) σ H (.bl false) := ev_isi ha isi_int kit_ib
theorem ev_isiL {K : PySem.W.Frag} {σ : L2.St} {H : Hp} {ta : TE} {a : Addr} {xs : List V} (ha : Ev ta σ H (.ref a)) (h : H a = some (.lst xs)) : Ev (tCB (rIsi K) (tCons ta (tCons (tC (.ty "list")) tNil))) σ H (.bl true) := ev_isi ha (isi_lst h) kit_ll
theorem ev_isiBB {K : PySem.W.Frag} {σ : L2.St} {H : Hp} {ta : TE} {b : Bool} (ha : Ev ta σ H (.bl b)) : Ev (tCB (rIsi K) (tCons ta (tCons (tC (.ty "bool")) tNil))) σ H (.bl true) := ev_isi ha isi_bl kit_bb
theorem ev_chain {σ : L2.St} {H : Hp} {ta tb tc : TE} {g g' : Int → Int → Bool} {a b c : Int} (ha : Ev ta σ H (.int a)) (hb : Ev tb σ H (.int b)) (hc : Ev tc σ H (.int c)) :
    Ev (tChain (rI0 fun i j => .bl (g i j)) (rI0 fun i j => .bl (g' i j)) ta tb tc) σ H (.bl (g a b && g' b c)) := fun H1 e Q q =>
  ha H1 e _ fun H2 e2 => hb H2 (e.trans e2) _ fun H3 e3 => ⟨a, b, rfl, rfl, g a b, rfl, by
    cases hg : g a b with
    | true =>
      rw [if_pos rfl]
      rw [hg, Bool.true_and] at q
      exact hc H3 ((e.trans e2).trans e3) _ fun H4 e4 => ⟨b, c, rfl, rfl, q H4 ((e2.trans e3).trans e4)⟩
    | false =>
      rw [if_neg (by decide)]
      rw [hg, Bool.false_and] at q
      exact q H3 (e2.trans e3)⟩
theorem ev_isN {σ : L2.St} {H : Hp} {ta : TE} {x : V} (ha : Ev ta σ H x) : Ev (tOp rIsN ta (tC .non)) σ H (.bl (decide (x = .non))) := fun H1 e Q q => ha H1 e _ fun H2 e2 => ⟨rfl, q H2 e2⟩
theorem ev_notN {σ : L2.St} {H : Hp} {ta : TE} {x : V} (ha : Ev ta σ H x) : Ev (tOp rNotN ta (tC .non)) σ H (.bl (!decide (x = .non))) := fun H1 e Q q => ha H1 e _ fun H2 e2 => ⟨rfl, q H2 e2⟩
theorem ev_min2 {σ : L2.St} {H : Hp} {ta tb : TE} {i j : Int} (ha : Ev ta σ H (.int i)) (hb : Ev tb σ H (.int j)) :
    Ev (tCB (fun xs H Q => ∃ i j, xs = [.int i, .int j] ∧ Q (.int (if j < i then j else i)) H) (tCons ta (tCons tb tNil))) σ H (.int (if j < i then j else i)) :=
  ev_cb (ea_cons ha (ea_cons hb ea_nil)) fun H1 _ _ q => ⟨i, j, rfl, q H1 (Ex.refl H1)⟩
theorem ev_negI {σ : L2.St} {H : Hp} {ta : TE} {i : Int} (ha : Ev ta σ H (.int i)) : Ev (tUn (rU fun i => .int (-i)) ta) σ H (.int (-i)) := ev_un ha ru_neg
theorem ev_I0 {σ : L2.St} {H : Hp} {ta tb : TE} {g : Int → Int → V} {i j : Int} (ha : Ev ta σ H (.int i)) (hb : Ev tb σ H (.int j)) : Ev (tOp (rI0 g) ta tb) σ H (g i j) := ev_op ha hb rv_I0
theorem ev_I {σ : L2.St} {H : Hp} {ta tb : TE} {C : Int → Int → Prop} {g : Int → Int → V} {i j : Int} (ha : Ev ta σ H (.int i)) (hb : Ev tb σ H (.int j)) (hc : C i j) : Ev (tOp (rI C g) ta tb) σ H (g i j) := ev_op ha hb (rv_I hc)
theorem ev_eq {σ : L2.St} {H : Hp} {ta tb : TE} {x y : V} (ha : Ev ta σ H x) (hb : Ev tb σ H y) (hs : scal x y = true) : Ev (tOp rEq ta tb) σ H (.bl (decide (x = y))) := ev_op ha hb (rv_eq hs)
theorem ev_ne {σ : L2.St} {H : Hp} {ta tb : TE} {x y : V} (ha : Ev ta σ H x) (hb : Ev tb σ H y) (hs : scal x y = true) : Ev (tOp rNe ta tb) σ H (.bl (!decide (x = y))) := ev_op ha hb (rv_ne hs)
theorem et_B' {σ : L2.St} {H : Hp} {te : TE} {x : V} {b : Bool} (h : Ev te σ H x) (e : x = .bl b) : EvT (tB te) σ H b := et_B (e ▸ h)
theorem dec_lt {a b : Nat} : decide ((a : Int) < (b : Int)) = decide (a < b) := by
  by_cases h : a < b
  · rw [decide_eq_true h, decide_eq_true (by omega)]
  · rw [decide_eq_false h, decide_eq_false (by omega)]
theorem int_at {ns : List Int} {i : Nat} {x : V} (hx : (ns.map V.int)[i]? = some x) : ∃ n, ns[i]? = some n ∧ i < ns.length ∧ x = V.int n := by
  rw [List.getElem?_map] at hx
  cases en : ns[i]? with
  | none => rw [en] at hx; cases hx
  | some n => rw [en] at hx; exact ⟨n, rfl, (List.getElem?_eq_some_iff.mp en).1, (Option.some.inj hx).symm⟩
theorem at_int {ns : List Int} {i : Nat} {n : Int} (h : ns[i]? = some n) : (ns.map V.int)[i]? = some (V.int n) := by rw [List.getElem?_map, h]; rfl
local macro_rules | `(tactic| walk_at "side") => `(tactic| first
  | omega | (show CMul _ _; unfold CMul; omega) | (show CDiv _ _; unfold CDiv; omega) | (show CPow _ _; unfold CPow; omega) | (show (_ : Int) < _; omega) | (show (_ : Int) ≤ _; omega) | decide)
local macro_rules | `(tactic| walk_at "ev") => `(tactic| first
  | exact ev_var rfl
  | exact ev_c
  | (refine' ev_I0 ?h1 ?h2; (case h1 => walk_at "ev"); (case h2 => walk_at "ev"))
  | (refine' ev_negI ?h1; (case h1 => walk_at "ev"))
  | (refine' ev_I ?h1 ?h2 ?hc; (case h1 => walk_at "ev"); (case h2 => walk_at "ev"); (case hc => walk_at "side"))
  | (refine' ev_eq ?h1 ?h2 ?hc; (case h1 => walk_at "ev"); (case h2 => walk_at "ev"); (case hc => rfl))
  | (refine' ev_ne ?h1 ?h2 ?hc; (case h1 => walk_at "ev"); (case h2 => walk_at "ev"); (case hc => rfl))
  | (refine' ev_max2 ?h1 ?h2; (case h1 => walk_at "ev"); (case h2 => walk_at "ev"))
  | (refine' ev_min2 ?h1 ?h2; (case h1 => walk_at "ev"); (case h2 => walk_at "ev"))
  | (refine' ev_chain ?h1 ?h2 ?h3; (case h1 => walk_at "ev"); (case h2 => walk_at "ev"); (case h3 => walk_at "ev"))
  | (refine' ev_isN ?h1; (case h1 => walk_at "ev"))
  | (refine' ev_notN ?h1; (case h1 => walk_at "ev"))
  | (refine' ev_isiI ?h1; (case h1 => walk_at "ev"))
  | (refine' ev_isiB ?h1; (case h1 => walk_at "ev"))
  | (refine' ev_isiBB ?h1; (case h1 => walk_at "ev"))
  | (refine' ev_andV ?h1 (fun _ => ?h2); (case h1 => walk_at "ev"); (case h2 => walk_at "ev"))
  | (refine' ev_orV ?h1 (fun _ => ?h2); (case h1 => walk_at "ev"); (case h2 => walk_at "ev"))
  | (refine' ev_notV ?h1; (case h1 => walk_at "ev"))
  | walk_at "evmore")
local macro_rules | `(tactic| walk_at "et") => `(tactic| first
  | (refine' et_test ?h1; (case h1 => walk_at "ev"))
  | (refine' et_B ?h1; (case h1 => walk_at "ev"))
  | (refine' et_not ?h1; (case h1 => walk_at "et"))
  | (refine' et_and ?h1 (fun _ => ?h2); (case h1 => walk_at "et"); (case h2 => walk_at "et"))
  | (refine' et_or ?h1 (fun _ => ?h2); (case h1 => walk_at "et"); (case h2 => walk_at "et")))
local macro_rules | `(tactic| walk_at "ea") => `(tactic| first
  | exact ea_nil
  | (refine' ea_cons ?h1 ?h2; (case h1 => walk_at "ev"); (case h2 => walk_at "ea")))
local macro_rules | `(tactic| walk_at "when") => `(tactic| (refine' q_when ?h ?h1 ?h2; (case h => walk_at "et")))
local macro_rules | `(tactic| walk_at "whenS") => `(tactic| (refine' s_when ?h ?h1 ?h2; (case h => walk_at "et")))
local macro_rules | `(tactic| walk_at "if") => `(tactic| (refine' q_if ?h ?h1 ?h2; (case h => walk_at "et")))
local macro_rules | `(tactic| walk_at "ifS") => `(tactic| (refine' s_if ?h ?h1 ?h2; (case h => walk_at "et")))
local macro_rules | `(tactic| walk_at "ret") => `(tactic| (refine' s_ret ?h ?h1; (case h => walk_at "ev")))
local macro_rules | `(tactic| walk_at "asg") => `(tactic| (refine' q_asg ?h ?h1; (case h => walk_at "ev")))
local macro_rules | `(tactic| walk_at "asgS") => `(tactic| (refine' s_asg ?h ?h1; (case h => walk_at "ev")))

/-! ### lists, existing or new -/
def EvR (te : TE) (σ : L2.St) (H : Hp) (xs : List V) : Prop := ∀ H1, Ex H H1 → ∀ Q : VK, (∀ p H2, Ex H1 H2 → H2 p = some (.lst xs) → Q (.ref p) H2) → te σ H1 Q
def EvS (K : PySem.W.Frag) (te : TE) (σ : L2.St) (H : Hp) (xs : List V) : Prop := ∀ H1, Ex H H1 → ∀ Q : VK, (∀ p H2, Ex H1 H2 → SqL K H2 p xs → Q (.ref p) H2) → te σ H1 Q
section
variable {K : PySem.W.Frag} {σ : L2.St} {H H' : Hp} {ta tb te : TE} {xs ys : List V} {a : Addr}
theorem EvL.r (h : EvL te σ H xs) : EvR te σ H xs := fun H1 e Q q => h H1 e Q fun p H2 _ e2 h2 => q p H2 e2 h2
theorem Ev.r (h : Ev te σ H (.ref a)) (hx : H a = some (.lst xs)) : EvR te σ H xs := fun H1 e Q q => h H1 e Q fun H2 e2 => q a H2 e2 (e2 _ _ (e _ _ hx))
theorem EvR.s (h : EvR te σ H xs) : EvS K te σ H xs := fun H1 e Q q => h H1 e Q fun p H2 e2 h2 => q p H2 e2 (sq_of h2)
theorem Ev.s (h : Ev te σ H (.ref a)) (hx : SqL K H a xs) : EvS K te σ H xs := fun H1 e Q q => h H1 e Q fun H2 e2 => q a H2 e2 (ex_l e2 (ex_l e hx))
theorem EvR.mono (e : Ex H H') (h : EvR te σ H xs) : EvR te σ H' xs := fun H1 a Q q => h H1 (e.trans a) Q q
theorem EvS.mono (e : Ex H H') (h : EvS K te σ H xs) : EvS K te σ H' xs := fun H1 a Q q => h H1 (e.trans a) Q q
theorem EvL.is (h : EvL te σ H xs) (e : xs = ys) : EvL te σ H ys := e ▸ h
theorem EvR.is (h : EvR te σ H xs) (e : xs = ys) : EvR te σ H ys := e ▸ h
theorem el_cat (ha : EvR ta σ H xs) (hb : EvR tb σ H ys) (hl : xs.length + ys.length ≤ 100000) : EvL (tOp rCat ta tb) σ H (xs ++ ys) := fun H1 e Q q =>
  ha H1 e _ fun p H2 e2 h2 => hb H2 (e.trans e2) _ fun r H3 e3 h3 => ⟨p, r, xs, ys, rfl, rfl, e3 _ _ h2, h3, sz_of hl, fun l hl => q l _ (fresh_back (e2.trans e3) hl) ((e2.trans e3).trans (Ex.new hl)) upd_same⟩
theorem el_rep {k : Int} (ha : EvR ta σ H xs) (hb : Ev tb σ H (.int k)) (hk : -(2 ^ 63) ≤ k ∧ k < 2 ^ 63) (hl : xs.length * k.toNat ≤ 100000) : EvL (tOp rRep ta tb) σ H (List.replicate k.toNat xs).flatten := fun H1 e Q q =>
  ha H1 e _ fun p H2 e2 h2 => hb H2 (e.trans e2) _ fun H3 e3 => ⟨p, k, xs, rfl, rfl, e3 _ _ h2, hk.1, hk.2, sz_of hl, fun l hl => q l _ (fresh_back (e2.trans e3) hl) ((e2.trans e3).trans (Ex.new hl)) upd_same⟩
theorem rep_one {x : V} (n : Nat) : (List.replicate n [x]).flatten = List.replicate n x := by
  induction n with
  | zero => rfl
  | succ n ih => rw [List.replicate_succ, List.replicate_succ, List.flatten_cons, ih]; rfl
theorem el_of {te : TE} (h : EvS K te σ H xs) : EvL (tCB (rListS K) (tCons te tNil)) σ H xs := fun H1 e Q q =>
  h H1 e _ fun p H2 e2 h2 => ⟨p, xs, rfl, .inl h2, fun l hl => q l _ (fresh_back e2 hl) (e2.trans (Ex.new hl)) upd_same⟩
theorem ev_lenS (h : EvS K te σ H xs) : Ev (tCB (rLenS K) (tCons te tNil)) σ H (.int (xs.length : Int)) := fun H1 e Q q =>
  h H1 e _ fun p H2 e2 h2 => ⟨p, xs, rfl, .inl h2, q H2 e2⟩
theorem ev_sum {ns : List Int} (h : EvS K te σ H (ns.map V.int)) : Ev (tCB (rSum K) (tCons te tNil)) σ H (.int ns.sum) := fun H1 e Q q =>
  h H1 e _ fun p H2 e2 h2 => ⟨p, ns, rfl, h2, q H2 e2⟩
theorem dp_ints {K : PySem.W.Frag} {H : Hp} : ∀ ns : List Int, DpAll K H (ns.map V.int) (ns.map PyData.int)
  | [] => .nil
  | n :: r => .cons (.int n) (dp_ints r)
theorem eqv_ints : ∀ ns ms : List Int, PyData.eqvAll (ns.map PyData.int) (ms.map PyData.int) = decide (ns = ms)
  | [], [] => by simp [PyData.eqvAll]
  | [], _ :: _ => by simp [PyData.eqvAll]
  | _ :: _, [] => by simp [PyData.eqvAll]
  | n :: r, m :: t => by
    show (PyData.eqv (.int n) (.int m) && PyData.eqvAll (r.map PyData.int) (t.map PyData.int)) = _
    rw [eqv_ints r t]
    show ((n == m) && decide (r = t)) = _
    by_cases h1 : n = m <;> by_cases h2 : r = t <;> simp [h1, h2]
theorem canLay_ints : ∀ ns : List Int, PyData.canLayAll0 (ns.map PyData.int) = true
  | [] => by simp [PyData.canLayAll0]
  | n :: r => by
    show PyData.canLayAll0 (PyData.int n :: r.map PyData.int) = true
    rw [PyData.canLayAll0, canLay_ints r]
    simp [PyData.canLay0]
theorem depth_ints : ∀ ns : List Int, PyData.depthAll (ns.map PyData.int) ≤ 1
  | [] => by simp [PyData.depthAll]
  | n :: r => by
    show PyData.depthAll (PyData.int n :: r.map PyData.int) ≤ 1
    have := depth_ints r
    simp only [PyData.depthAll, PyData.depth]
    omega
theorem shaped_ints (ns : List Int) : SeqAt.shaped (.list (ns.map PyData.int)) = true := by
  unfold SeqAt.shaped
  have h1 := canLay_ints ns
  have h2 := depth_ints ns
  have h3 : PyData.depth (.list (ns.map PyData.int)) ≤ 64 := by
    rw [PyData.depth]
    omega
  rw [decide_eq_true h3, Bool.and_true]
  simpa only [PyData.canLay0] using h1
theorem ev_eqI {ns ms : List Int} (ha : EvS K ta σ H (ns.map V.int)) (hb : EvS K tb σ H (ms.map V.int)) : Ev (tOp (rEqD K) ta tb) σ H (.bl (decide (ns = ms))) := fun H1 e Q q =>
  ha H1 e _ fun p H2 e2 h2 => hb H2 (e.trans e2) _ fun r H3 e3 h3 => ⟨.list (ns.map PyData.int), .list (ms.map PyData.int), .lst (ex_l e3 h2) (dp_ints ns), .lst h3 (dp_ints ms), shaped_ints ns, shaped_ints ms, by
    show Q (.bl (PyData.eqvAll (ns.map PyData.int) (ms.map PyData.int))) H3
    rw [eqv_ints]
    exact q H3 (e2.trans e3)⟩
theorem ev_neI {ns ms : List Int} (ha : EvS K ta σ H (ns.map V.int)) (hb : EvS K tb σ H (ms.map V.int)) : Ev (tOp (rNeD K) ta tb) σ H (.bl (!decide (ns = ms))) := fun H1 e Q q =>
  ha H1 e _ fun p H2 e2 h2 => hb H2 (e.trans e2) _ fun r H3 e3 h3 => ⟨.list (ns.map PyData.int), .list (ms.map PyData.int), .lst (ex_l e3 h2) (dp_ints ns), .lst h3 (dp_ints ms), shaped_ints ns, shaped_ints ms, by
    show Q (.bl (!PyData.eqvAll (ns.map PyData.int) (ms.map PyData.int))) H3
    rw [eqv_ints]
    exact q H3 (e2.trans e3)⟩
theorem ev_ixS {i : Nat} {n : Int} {tl ti : TE} {v : V} (h : EvS K tl σ H xs) (hi : Ev ti σ H (.int n)) (ha : atI xs n = some v) : Ev (tOp (rIxL K) tl ti) σ H v := fun H1 e Q q =>
  h H1 e _ fun p H2 e2 h2 => hi H2 (e.trans e2) _ fun H3 e3 => ⟨p, xs, n, v, rfl, rfl, ex_l e3 h2, ha, q H3 (e2.trans e3)⟩
theorem el_slS {tl th : TO} {lo hi : Option Int} (h : EvS K te σ H xs) (h1 : EvO tl σ H lo) (h2 : EvO th σ H hi) : EvL (tSl (rSlL K) te tl th) σ H (cutV xs lo hi) := fun H1 e _ q =>
  h H1 e _ fun a H2 e2 hs => h1 H2 (e.trans e2) _ fun H3 e3 => h2 H3 ((e.trans e2).trans e3) _ fun H4 e4 =>
    ⟨a, xs, rfl, ex_l (e3.trans e4) hs, fun p hp => q p _ (fresh_back ((e2.trans e3).trans e4) hp) (((e2.trans e3).trans e4).trans (Ex.new hp)) upd_same⟩
theorem ev_at {n : Int} {tl ti : TE} {v : V} (h : EvS K tl σ H xs) (hi : Ev ti σ H (.int n)) (ha : atI xs n = some v) : Ev (tOp (rIxL K) tl ti) σ H v := ev_ixS (i := 0) h hi ha
theorem cut_to (xs : List V) (i : Nat) : cutV xs none (some (i : Int)) = xs.take i := by
  unfold cutV
  rw [HT.sIx_none, HT.sIx_nat, List.drop_zero, Nat.sub_zero]
  by_cases h : i ≤ xs.length
  · rw [Nat.min_eq_left h]
  · rw [Nat.min_eq_right (by omega), List.take_of_length_le (Nat.le_refl _), List.take_of_length_le (by omega)]
theorem cut_from (xs : List V) (i : Nat) : cutV xs (some (i : Int)) none = xs.drop i := by
  unfold cutV
  rw [HT.sIx_none, HT.sIx_nat]
  by_cases h : i ≤ xs.length
  · rw [Nat.min_eq_left h, List.take_of_length_le (by rw [List.length_drop]; omega)]
  · rw [Nat.min_eq_right (by omega), List.drop_of_length_le (Nat.le_refl _), List.drop_of_length_le (show xs.length ≤ i by omega), List.take_nil]
theorem cut_mid (xs : List V) (i j : Nat) : cutV xs (some (i : Int)) (some (j : Int)) = (xs.drop i).take (j - i) := by
  unfold cutV
  rw [HT.sIx_nat, HT.sIx_nat]
  by_cases h : i ≤ xs.length
  · rw [Nat.min_eq_left h]
    by_cases h2 : j ≤ xs.length
    · rw [Nat.min_eq_left h2]
    · rw [Nat.min_eq_right (by omega), List.take_of_length_le (by rw [List.length_drop]; omega), List.take_of_length_le (by rw [List.length_drop]; omega)]
  · rw [Nat.min_eq_right (by omega : xs.length ≤ i), List.drop_of_length_le (Nat.le_refl _), List.drop_of_length_le (show xs.length ≤ i by omega)]
    simp
theorem el_to {th : TE} {ns : List Int} {i : Nat} (h : EvS K te σ H (ns.map V.int)) (h2 : Ev th σ H (.int i)) : EvL (tSl (rSlL K) te tNoPart (tPart th)) σ H ((ns.take i).map V.int) :=
  EvL.is (el_slS h eo_none (eo_some h2)) (by rw [List.map_take]; exact cut_to _ i)
theorem el_from {th : TE} {ns : List Int} {i : Nat} (h : EvS K te σ H (ns.map V.int)) (h2 : Ev th σ H (.int i)) : EvL (tSl (rSlL K) te (tPart th) tNoPart) σ H ((ns.drop i).map V.int) :=
  EvL.is (el_slS h (eo_some h2) eo_none) (by rw [List.map_drop]; exact cut_from _ i)
theorem el_mid {t1 t2 : TE} {ns : List Int} {i j : Nat} (h : EvS K te σ H (ns.map V.int)) (h1 : Ev t1 σ H (.int i)) (h2 : Ev t2 σ H (.int j)) : EvL (tSl (rSlL K) te (tPart t1) (tPart t2)) σ H (((ns.drop i).take (j - i)).map V.int) :=
  EvL.is (el_slS h (eo_some h1) (eo_some h2)) (by rw [List.map_take, List.map_drop]; exact cut_mid _ i j)
section
variable {D : Ends} {tz : TS} {sp : Sp} {dvs vs : List V} {E : XK} {tA : TA}
/-- x = f(..), whatever f promises -/
theorem q_asgC {i : Nat} (h : EvA tA σ H vs) (k : ∀ H1, Ex H H1 → sp (vs ++ dvs) H1 (fun x H2 => tz D (σ.set i (some x)) H2) E) : tSeq (tAsg (tCall sp dvs E tA) (gName i)) tz D σ H := h H (Ex.refl H) _ fun H1 e => k H1 e
theorem s_asgC {i : Nat} (h : EvA tA σ H vs) (k : ∀ H1, Ex H H1 → sp (vs ++ dvs) H1 (fun x H2 => D.nx (σ.set i (some x)) H2) E) : tAsg (tCall sp dvs E tA) (gName i) D σ H := h H (Ex.refl H) _ fun H1 e => k H1 e
theorem q_dropC (h : EvA tA σ H vs) (k : ∀ H1, Ex H H1 → sp (vs ++ dvs) H1 (fun _ H2 => tz D σ H2) E) : tSeq (tDrop (tCall sp dvs E tA)) tz D σ H := h H (Ex.refl H) _ fun H1 e => k H1 e
theorem s_retC (h : EvA tA σ H vs) (k : ∀ H1, Ex H H1 → sp (vs ++ dvs) H1 D.rt E) : tRet (tCall sp dvs E tA) D σ H := h H (Ex.refl H) _ fun H1 e => k H1 e
end
theorem gl_get {ns : List Int} {i : Nat} (h : i < ns.length) : ns[i]? = some (ns.getD i 0) := by
  rw [List.getD_eq_getElem?_getD, List.getElem?_eq_getElem h]
  rfl
theorem q_asgRaw {te : TE} {i : Nat} {D : Ends} {tz : TS} (P : V → Hp → Prop) (h : ∀ Q : VK, (∀ x H2, P x H2 → Q x H2) → te σ H Q) (k : ∀ x H2, P x H2 → tz D (σ.set i (some x)) H2) : tSeq (tAsg te (gName i)) tz D σ H := h _ k
/-- a, b = a pair -/
theorem q_asgT {te : TE} {i j : Nat} {D : Ends} {tz : TS} (P : V → V → Hp → Prop) (h : ∀ Q : VK, (∀ t x y H2, P x y H2 → SqT K H2 t [x, y] → Q (.ref t) H2) → te σ H Q) (k : ∀ x y H2, P x y H2 → tz D ((σ.set i (some x)).set j (some y)) H2) :
    tSeq (tAsg te (gTup K 2 (gCons (gName i) (gCons (gName j) gNil)))) tz D σ H := h _ fun t x y H2 hP hT => ⟨t, [x, y], rfl, hT, rfl, x, [y], rfl, y, [], rfl, rfl, k x y H2 hP⟩
/-- the law's cell -/
def cellI (ns : List Int) (k : Int) : Int := ns.getD k.toNat 0
theorem cellI_in {ns : List Int} {k : Int} (h0 : 0 ≤ k) (h : k < ns.length) : ns[k.toNat]? = some (cellI ns k) := by
  unfold cellI
  rw [List.getD_eq_getElem?_getD, List.getElem?_eq_getElem (by omega)]
  rfl
theorem cellI_out {ns : List Int} {k : Int} (h : ¬ k < ns.length) : cellI ns k = 0 := by
  unfold cellI
  rw [List.getD_eq_getElem?_getD, List.getElem?_eq_none (by omega)]
  rfl
end
theorem Ex.get {H H' : Hp} {a : Addr} {o : HO} (e : Ex H H') (h : H a = some o) : H' a = some o := e a o h
local macro_rules | `(tactic| walk_at "hp") => `(tactic| first
  | assumption
  | exact upd_same
  | (refine' Ex.get (by assumption) ?h1; (case h1 => walk_at "hp")))
local macro_rules | `(tactic| walk_at "ex") => `(tactic| first
  | assumption
  | exact Ex.refl _
  | (refine' Ex.trans ?h1 (by assumption); (case h1 => walk_at "ex")))
local macro_rules | `(tactic| walk_at "sq") => `(tactic| first
  | assumption
  | (refine' sq_of ?h1; (case h1 => walk_at "hp"))
  | (refine' ex_l (by assumption) ?h1; (case h1 => walk_at "sq")))
local macro_rules | `(tactic| walk_at "evs") => `(tactic| first
  | (refine' Ev.s ?h1 ?h2; (case h1 => exact ev_var rfl); (case h2 => walk_at "sq"))
  | (refine' EvR.s ?h1; (case h1 => walk_at "evr")))
local macro_rules | `(tactic| walk_at "evr") => `(tactic| first
  | (refine' Ev.r ?h1 ?h2; (case h1 => exact ev_var rfl); (case h2 => walk_at "hp"))
  | (refine' EvL.r ?h1; (case h1 => walk_at "el")))
local macro_rules | `(tactic| walk_at "eo") => `(tactic| first
  | exact eo_none
  | (refine' eo_some ?h1; (case h1 => walk_at "ev")))
local macro_rules | `(tactic| walk_at "el") => `(tactic| first
  | (refine' el_lst ?h1 ?h2; (case h1 => walk_at "ea"); (case h2 => exact Nat.le_of_ble_eq_true rfl))
  | (refine' el_cat ?h1 ?h2 ?h3; (case h1 => walk_at "evr"); (case h2 => walk_at "evr"); (case h3 => walk_at "len"))
  | (refine' el_rep ?h1 ?h2 ?h3 ?h4; (case h1 => walk_at "evr"); (case h2 => walk_at "ev"); (case h3 => walk_at "side2"); (case h4 => walk_at "len"))
  | (refine' el_of ?h1; (case h1 => walk_at "evs"))
  | (refine' el_to ?h1 ?h2; (case h1 => walk_at "evs"); (case h2 => walk_at "ev"))
  | (refine' el_from ?h1 ?h2; (case h1 => walk_at "evs"); (case h2 => walk_at "ev"))
  | (refine' el_mid ?h1 ?h2 ?h3; (case h1 => walk_at "evs"); (case h2 => walk_at "ev"); (case h3 => walk_at "ev"))
  | (refine' el_slS ?h1 ?h2 ?h3; (case h1 => walk_at "evs"); (case h2 => walk_at "eo"); (case h3 => walk_at "eo"))
  | walk_at "elmore")
local macro_rules | `(tactic| walk_at "evmore") => `(tactic| first
  | (refine' ev_lenS ?h1; (case h1 => walk_at "evs"))
  | (refine' ev_sum ?h1; (case h1 => walk_at "evs"))
  | (refine' ev_eqI ?h1 ?h2; (case h1 => walk_at "evs"); (case h2 => walk_at "evs"))
  | (refine' ev_neI ?h1 ?h2; (case h1 => walk_at "evs"); (case h2 => walk_at "evs"))
  | (refine' ev_at ?h1 ?h2 ?h3; (case h1 => walk_at "evs"); (case h2 => walk_at "ev"); (case h3 => walk_at "at"))
  | (refine' ev_isiL ?h1 ?h2; (case h1 => walk_at "ev"); (case h2 => walk_at "hp"))
  | walk_at "evown")
local macro_rules | `(tactic| walk_at "at") => `(tactic| first
  | exact at_of rfl (at_int (by assumption))
  | exact at_of rfl (by assumption))
local macro_rules | `(tactic| walk_at "asgL") => `(tactic| (refine' q_asgL ?h ?h1; (case h => walk_at "el")))
local macro_rules | `(tactic| walk_at "retL") => `(tactic| (refine' s_retL ?h ?h1; (case h => walk_at "el")))

/-- a walk's reading said in other words -/
theorem PI.k {X : Cx} {tg e : Expr} {wi wi' : TI} (h : PI X tg e wi) (q : wi = wi') : PI X tg e wi' := q ▸ h
/-! ### comprehensions whose items are said in a list -/
theorem et_yes {σ : L2.St} {H : Hp} : EvT tYes σ H true := fun H1 _ _ q => q H1 (Ex.refl H1)
section
variable {K : PySem.W.Frag} {σ : L2.St} {H : Hp} {t1 t2 te : TE} {xs ys zs : List V} {vs : List Nat}
theorem take_snoc {zs : List V} {i : Nat} {z : V} (h : zs[i]? = some z) : zs.take (i + 1) = zs.take i ++ [z] := by
  rw [List.take_add_one, h]
  rfl
theorem el_lcZ {j1 j2 : Nat} (zs : List V) (h1 : EvS K t1 σ H xs) (h2 : EvS K t2 σ H ys) (hz : zs.length = min xs.length ys.length) (hb : zs.length ≤ 50000)
    (hw : ∀ x y, wipe (((wipe σ vs).set j1 (some x)).set j2 (some y)) vs = wipe σ vs)
    (he : ∀ (i : Nat) (x y : V) H1, Ex H H1 → xs[i]? = some x → ys[i]? = some y → ∃ z, zs[i]? = some z ∧ Ev te (((wipe σ vs).set j1 (some x)).set j2 (some y)) H1 z) :
    EvL (tLc (iZip K (tCons t1 (tCons t2 tNil))) (gTup K 2 (gCons (gName j1) (gCons (gName j2) gNil))) tYes te vs) σ H zs := fun H0 e Q q =>
  h1 H0 e _ fun p H1 e1 hp => h2 H1 (e.trans e1) _ fun r H2 e2 hr => ⟨p, r, xs, ys, rfl, ex_l e2 hp, hr, fun D hD =>
    ⟨fun i m H' => m = zs.length - i ∧ i ≤ zs.length ∧ Ex H2 H' ∧ H' D = some (.lst (zs.take i)), ⟨zs.length, rfl, Nat.zero_le _, Ex.new hD, upd_same⟩, by
      rintro i m H' ⟨rfl, hi, ex, hd⟩
      have qx : SqL K H' p xs := ex_l (e2.trans ex) hp
      have qy : SqL K H' r ys := ex_l ex hr
      by_cases hlt : i < zs.length
      · have hx : xs[i]? = some xs[i] := List.getElem?_eq_getElem (by omega)
        have hy : ys[i]? = some ys[i] := List.getElem?_eq_getElem (by omega)
        refine .inr ⟨⟨xs, ys, _, _, qx, qy, hx, hy⟩, fun H3 => i + 1 ≤ zs.length ∧ Ex H2 H3 ∧ H3 D = some (.lst (zs.take (i + 1))), fun H3 h3 => ⟨zs.length - (i + 1), by omega, rfl, h3⟩, fun v H3 hv => ?_⟩
        obtain ⟨T, x, y, rfl, hT, rfl, f1, f2⟩ := hv
        have ex3 : Ex H' (upd H' T (.tup [x, y])) := Ex.new hT
        obtain ⟨z, hz1, hz2⟩ := he i x y (upd H' T (.tup [x, y])) ((((e.trans e1).trans e2).trans ex).trans ex3) (f1 _ qx) (f2 _ qy)
        refine ⟨T, [x, y], rfl, st_of upd_same, rfl, x, [y], rfl, y, [], rfl, rfl, hw x y, ?_⟩
        refine hz2 _ (Ex.refl _) _ fun H4 e4 => ⟨zs.take i, e4 _ _ (ex3 _ _ hd), sz_lt (by rw [List.length_take]; omega), hlt, ?_, ?_⟩
        · exact Ex.mut ((ex.trans ex3).trans e4) hD
        · rw [upd_same, take_snoc hz1]
      · have ei : i = zs.length := by omega
        refine .inl ⟨⟨xs, ys, qx, qy, by omega⟩, ?_⟩
        rw [ei, List.take_length] at hd
        exact q D H' (fresh_back (e1.trans e2) hD) ((e1.trans e2).trans ex) hd⟩⟩
/-- over a list, each item kept -/
theorem el_lcS {j : Nat} (zs : List V) (h1 : EvS K t1 σ H xs) (hz : zs.length = xs.length) (hb : zs.length ≤ 50000) (hw : ∀ x, wipe ((wipe σ vs).set j (some x)) vs = wipe σ vs)
    (he : ∀ (i : Nat) (x : V) H1, Ex H H1 → xs[i]? = some x → ∃ z, zs[i]? = some z ∧ Ev te ((wipe σ vs).set j (some x)) H1 z) :
    EvL (tLc (iList K t1) (gName j) tYes te vs) σ H zs := fun H0 e Q q =>
  h1 H0 e _ fun p H1 e1 hp => ⟨p, rfl, ⟨xs, hp⟩, fun D hD => lc_list (xs := xs) (fun i H' => Ex H1 H' ∧ H' D = some (.lst (zs.take i))) ⟨Ex.new hD, upd_same⟩ (fun i H' _ h => ex_l h.1 hp)
    (fun i x H' hi h => ⟨hw x, by
      obtain ⟨z, hz1, hz2⟩ := he i x H' ((e.trans e1).trans h.1) hi
      have hl : i < xs.length := (List.getElem?_eq_some_iff.mp hi).1
      refine hz2 H' (Ex.refl _) _ fun H4 e4 => ⟨zs.take i, e4 _ _ h.2, sz_lt (by rw [List.length_take]; omega), Ex.mut (h.1.trans e4) hD, ?_⟩
      rw [upd_same, take_snoc hz1]⟩)
    (fun H' h => q D H' (fresh_back e1 hD) (e1.trans h.1) (by rw [h.2, ← hz, List.take_length]))⟩
/-- over range(n) -/
theorem el_lcR {ta : TA} {n : Int} {j : Nat} (zs : List V) (h1 : EvA ta σ H [.int n]) (hn : -100000 ≤ n) (hz : zs.length = n.toNat) (hb : zs.length ≤ 50000) (hw : ∀ x, wipe ((wipe σ vs).set j (some x)) vs = wipe σ vs)
    (he : ∀ (i : Nat) H1, Ex H H1 → i < zs.length → ∃ z, zs[i]? = some z ∧ Ev te ((wipe σ vs).set j (some (.int (i : Int)))) H1 z) :
    EvL (tLc (iRng1 ta) (gName j) tYes te vs) σ H zs := fun H0 e Q q =>
  h1 H0 e _ fun H1 e1 => ⟨n, rfl, by omega, by omega, fun D hD => lc_range (lo := 0) (n := n.toNat) (fun i H' => Ex H1 H' ∧ H' D = some (.lst (zs.take i))) ⟨Ex.new hD, upd_same⟩
    (fun i H' hi h => by
      have e0 : (0 : Int) + (i : Int) = (i : Int) := Int.zero_add _
      rw [e0]
      obtain ⟨z, hz1, hz2⟩ := he i H' ((e.trans e1).trans h.1) (by omega)
      refine ⟨hw _, hz2 H' (Ex.refl _) _ fun H4 e4 => ⟨zs.take i, e4 _ _ h.2, sz_lt (by rw [List.length_take]; omega), Ex.mut (h.1.trans e4) hD, ?_⟩⟩
      rw [upd_same, take_snoc hz1])
    (fun H' h => q D H' (fresh_back e1 hD) (e1.trans h.1) (by rw [h.2, show n.toNat = zs.length by omega, List.take_length]))⟩
/-- y = [.. for x in f(..)], whatever f promises -/
theorem s_asgLC {sp : Sp} {dvs args : List V} {E : XK} {ta : TA} {g : TG} {tt : TT} {D : Ends} {i : Nat} (h : EvA ta σ H args) (k : ∀ H1, Ex H H1 → sp (args ++ dvs) H1 (fun x H2 => tAsg (tLc (iList K (tC x)) g tt te vs) (gName i) D σ H2) E) :
    tAsg (tLc (iList K (tCall sp dvs E ta)) g tt te vs) (gName i) D σ H := h H (Ex.refl H) _ fun H1 e => k H1 e
theorem q_asgLC {sp : Sp} {dvs args : List V} {E : XK} {ta : TA} {g : TG} {tt : TT} {D : Ends} {i : Nat} {tz : TS} (h : EvA ta σ H args) (k : ∀ H1, Ex H H1 → sp (args ++ dvs) H1 (fun x H2 => tSeq (tAsg (tLc (iList K (tC x)) g tt te vs) (gName i)) tz D σ H2) E) :
    tSeq (tAsg (tLc (iList K (tCall sp dvs E ta)) g tt te vs) (gName i)) tz D σ H := h H (Ex.refl H) _ fun H1 e => k H1 e
end

/-! ### data at any depth -/
mutual
theorem dp_ex {K : PySem.W.Frag} {H H' : Hp} (e : Ex H H') : ∀ (d : PyData) (v : V), Dp K H v d → Dp K H' v d
  | .none, _, h => by cases h; exact .non
  | .bool b, _, h => by cases h; exact .bl b
  | .int i, _, h => by cases h; exact .int i
  | .str x, _, h => by cases h; exact .str x
  | .list ds, _, h => by cases h with | lst hs ha => exact .lst (ex_l e hs) (dpa_ex e ds _ ha)
  | .tuple ds, _, h => by cases h with | tup hs ha => exact .tup (ex_t e hs) (dpa_ex e ds _ ha)
  | .dict _, _, h => by cases h
theorem dpa_ex {K : PySem.W.Frag} {H H' : Hp} (e : Ex H H') : ∀ (ds : List PyData) (vs : List V), DpAll K H vs ds → DpAll K H' vs ds
  | [], _, h => by cases h; exact .nil
  | d :: ds, _, h => by cases h with | cons h1 h2 => exact .cons (dp_ex e d _ h1) (dpa_ex e ds _ h2)
end
def EvD (K : PySem.W.Frag) (te : TE) (σ : L2.St) (H : Hp) (d : PyData) : Prop := ∀ H1, Ex H H1 → ∀ Q : VK, (∀ v H2, Ex H1 H2 → Dp K H2 v d → Q v H2) → te σ H1 Q
section
variable {K : PySem.W.Frag} {σ : L2.St} {H : Hp} {te ta tb t1 t2 t3 : TE} {d d1 d2 d3 : PyData} {v : V}
theorem EvD.of (h : Ev te σ H v) (hd : Dp K H v d) : EvD K te σ H d := fun H1 e Q q => h H1 e _ fun H2 e2 => q v H2 e2 (dp_ex (e.trans e2) d v hd)
theorem EvS.toD {ns : List Int} (h : EvS K te σ H (ns.map V.int)) : EvD K te σ H (.list (ns.map .int)) := fun H1 e Q q => h H1 e _ fun p H2 e2 hp => q (.ref p) H2 e2 (.lst hp (dp_ints ns))
theorem ed_tup2 (h1 : EvD K t1 σ H d1) (h2 : EvD K t2 σ H d2) : EvD K (tTup (tCons t1 (tCons t2 tNil))) σ H (.tuple [d1, d2]) := fun H1 e Q q => h1 H1 e _ fun v H2 e2 hv => h2 H2 (e.trans e2) _ fun u H3 e3 hu =>
  ⟨sz_of (show 2 ≤ 100000 by decide), fun p hp => q (.ref p) _ ((e2.trans e3).trans (Ex.new hp)) (.tup (st_of upd_same) (.cons (dp_ex (e3.trans (Ex.new hp)) _ _ hv) (.cons (dp_ex (Ex.new hp) _ _ hu) .nil)))⟩
theorem ev_eqDD (h1 : EvD K ta σ H d) (h2 : EvD K tb σ H d) (hs : SeqAt.shaped d = true) : Ev (tOp (rEqD K) ta tb) σ H (.bl true) := fun H1 e Q q => h1 H1 e _ fun v H2 e2 hv => h2 H2 (e.trans e2) _ fun u H3 e3 hu =>
  ⟨d, d, dp_ex e3 d v hv, hu, hs, hs, by rw [SeqAt.eqv_refl d (SeqAt.canLay_of_shaped hs)]; exact q H3 (e2.trans e3)⟩
theorem ev_neDD (h1 : EvD K ta σ H d) (h2 : EvD K tb σ H d) (hs : SeqAt.shaped d = true) : Ev (tOp (rNeD K) ta tb) σ H (.bl false) := fun H1 e Q q => h1 H1 e _ fun v H2 e2 hv => h2 H2 (e.trans e2) _ fun u H3 e3 hu =>
  ⟨d, d, dp_ex e3 d v hv, hu, hs, hs, by rw [SeqAt.eqv_refl d (SeqAt.canLay_of_shaped hs)]; exact q H3 (e2.trans e3)⟩
end
theorem shaped_pair (ns ms : List Int) : SeqAt.shaped (.tuple [.list (ns.map .int), .list (ms.map .int)]) = true := by
  unfold SeqAt.shaped
  have h1 := canLay_ints ns
  have h2 := depth_ints ns
  have h3 := canLay_ints ms
  have h4 := depth_ints ms
  rw [Bool.and_eq_true, decide_eq_true_iff]
  refine ⟨by simp only [PyData.canLay0, PyData.canLayAll0, h1, h3, Bool.and_self], ?_⟩
  simp only [PyData.depth, PyData.depthAll]
  omega

/-- what the top has left -/
structure TX (K : PySem.W.Frag) (mg : Str → Option Value) where
  a_MonochordError_init : Addr
  d_MonochordError_init : FuncData
  F_MonochordError_init : Fun K "__init__" "MonochordError.__init__" s_MonochordError_init a_MonochordError_init d_MonochordError_init
  b_MonochordError_init : Binds K d_MonochordError_init ["self", "place"] []
  a_read_utf8 : Addr
  d_read_utf8 : FuncData
  F_read_utf8 : Fun K "read_utf8" "read_utf8" s_read_utf8 a_read_utf8 d_read_utf8
  b_read_utf8 : Binds K d_read_utf8 ["data", "start", "stop"] []
  g_read_utf8 : mg "read_utf8" = some (.ref a_read_utf8)
  a_point_count : Addr
  d_point_count : FuncData
  F_point_count : Fun K "_point_count" "_point_count" s_point_count a_point_count d_point_count
  b_point_count : Binds K d_point_count ["point"] []
  g_point_count : mg "_point_count" = some (.ref a_point_count)
  a_least_first : Addr
  d_least_first : FuncData
  F_least_first : Fun K "_least_first" "_least_first" s_least_first a_least_first d_least_first
  b_least_first : Binds K d_least_first ["count"] []
  g_least_first : mg "_least_first" = some (.ref a_least_first)
  a_count_told : Addr
  d_count_told : FuncData
  F_count_told : Fun K "_count_told" "_count_told" s_count_told a_count_told d_count_told
  b_count_told : Binds K d_count_told ["first"] []
  g_count_told : mg "_count_told" = some (.ref a_count_told)
  a_read_point : Addr
  d_read_point : FuncData
  F_read_point : Fun K "_read_point" "_read_point" s_read_point a_read_point d_read_point
  b_read_point : Binds K d_read_point ["data", "place", "count"] []
  g_read_point : mg "_read_point" = some (.ref a_read_point)
  a_law_is_integer : Addr
  d_law_is_integer : FuncData
  F_law_is_integer : Fun K "_law_is_integer" "_law_is_integer" s_law_is_integer a_law_is_integer d_law_is_integer
  b_law_is_integer : Binds K d_law_is_integer ["actual"] []
  g_law_is_integer : mg "_law_is_integer" = some (.ref a_law_is_integer)
  a_law_refill : Addr
  d_law_refill : FuncData
  F_law_refill : Fun K "_law_refill" "_law_refill" s_law_refill a_law_refill d_law_refill
  b_law_refill : Binds K d_law_refill ["script", "k"] []
  g_law_refill : mg "_law_refill" = some (.ref a_law_refill)
  a_law_draw : Addr
  d_law_draw : FuncData
  F_law_draw : Fun K "_law_draw" "_law_draw" s_law_draw a_law_draw d_law_draw
  b_law_draw : Binds K d_law_draw ["state", "script", "size"] []
  g_law_draw : mg "_law_draw" = some (.ref a_law_draw)
  a_law_junk : Addr
  d_law_junk : FuncData
  F_law_junk : Fun K "_law_junk" "_law_junk" s_law_junk a_law_junk d_law_junk
  b_law_junk : Binds K d_law_junk ["state", "script", "count"] []
  g_law_junk : mg "_law_junk" = some (.ref a_law_junk)
  a_law_piece : Addr
  d_law_piece : FuncData
  F_law_piece : Fun K "_law_piece" "_law_piece" s_law_piece a_law_piece d_law_piece
  b_law_piece : Binds K d_law_piece ["state", "script"] []
  g_law_piece : mg "_law_piece" = some (.ref a_law_piece)
  a_law_length : Addr
  d_law_length : FuncData
  F_law_length : Fun K "_law_length" "_law_length" s_law_length a_law_length d_law_length
  b_law_length : Binds K d_law_length ["first"] []
  g_law_length : mg "_law_length" = some (.ref a_law_length)
  a_law_sequence : Addr
  d_law_sequence : FuncData
  F_law_sequence : Fun K "_law_sequence" "_law_sequence" s_law_sequence a_law_sequence d_law_sequence
  b_law_sequence : Binds K d_law_sequence ["data", "at", "stop"] []
  g_law_sequence : mg "_law_sequence" = some (.ref a_law_sequence)
  a_law_expected : Addr
  d_law_expected : FuncData
  F_law_expected : Fun K "_law_expected" "_law_expected" s_law_expected a_law_expected d_law_expected
  b_law_expected : Binds K d_law_expected ["data", "start", "stop"] []
  g_law_expected : mg "_law_expected" = some (.ref a_law_expected)
  a_law_outcome : Addr
  d_law_outcome : FuncData
  F_law_outcome : Fun K "_law_outcome" "_law_outcome" s_law_outcome a_law_outcome d_law_outcome
  b_law_outcome : Binds K d_law_outcome ["data", "start", "stop"] []
  g_law_outcome : mg "_law_outcome" = some (.ref a_law_outcome)
  a_law : Addr
  d_law : FuncData
  F_law : Fun K "law" "law" s_law a_law d_law
  b_law : Binds K d_law ["script"] []
  g_law : mg "law" = some (.ref a_law)
  C_MonochordError : Addr
  g_MonochordError : mg "MonochordError" = some (.ref C_MonochordError)
  x_MonochordError : ExK K C_MonochordError a_MonochordError_init "MonochordError"
  C_InvalidText : Addr
  g_InvalidText : mg "InvalidText" = some (.ref C_InvalidText)
  x_InvalidText : ExK K C_InvalidText a_MonochordError_init "InvalidText"
  ti_MonochordError_init : PySem.W.typeIn K (.ref a_MonochordError_init) = some (.type "function")
  sv_MonochordError : PySem.W.subIn K (.ref C_MonochordError) (.type "ValueError") = some true
  su_MonochordError_MonochordError : PySem.W.subIn K (.ref C_MonochordError) (.ref C_MonochordError) = some true
  su_MonochordError_InvalidText : PySem.W.subIn K (.ref C_MonochordError) (.ref C_InvalidText) = some false
  sv_InvalidText : PySem.W.subIn K (.ref C_InvalidText) (.type "ValueError") = some true
  su_InvalidText_MonochordError : PySem.W.subIn K (.ref C_InvalidText) (.ref C_MonochordError) = some true
  su_InvalidText_InvalidText : PySem.W.subIn K (.ref C_InvalidText) (.ref C_InvalidText) = some true
  m_isinstance : mg "isinstance" = none
  m_int : mg "int" = none
  m_bool : mg "bool" = none
  m_len : mg "len" = none
  m_range : mg "range" = none
  m_all : mg "all" = none
  m_ValueError : mg "ValueError" = none
section
variable {P : Program} {w : World} {K : PySem.W.Frag} {mg : Str → Option Value} {base : Heap}
/-! ### int(x), bits of a number -/
theorem Ev.is {σ : L2.St} {H : Hp} {te : TE} {x y : V} (h : Ev te σ H x) (e : x = y) : Ev te σ H y := e ▸ h
theorem ev_int1 {σ : L2.St} {H : Hp} {te : TE} {i : Int} (h : Ev te σ H (.int i)) : Ev (tCB (fun xs H Q => (∃ i, xs = [V.int i] ∧ Q (V.int i) H) ∨ ∃ k, xs = [V.bl k] ∧ Q (V.int (if k = true then 1 else 0)) H) (tCons te tNil)) σ H (.int i) :=
  ev_cb (ea_cons h ea_nil) fun H1 _ Q q => .inl ⟨i, rfl, q H1 (Ex.refl H1)⟩
theorem q_augR {σ : L2.St} {H : Hp} {te : TE} {D : Ends} {tz : TS} {i : Nat} {g : Int → Int → V} {a b : Int} (h1 : σ[i]? = some (some (.int a))) (h : Ev te σ H (.int b)) (k : ∀ H1, Ex H H1 → tz D (σ.set i (some (g a b))) H1) : tSeq (tAug i te (rI0 g)) tz D σ H :=
  ⟨_, h1, h H (Ex.refl H) _ fun H1 e => ⟨a, b, rfl, rfl, k H1 e⟩⟩
theorem s_augR {σ : L2.St} {H : Hp} {te : TE} {D : Ends} {i : Nat} {g : Int → Int → V} {a b : Int} (h1 : σ[i]? = some (some (.int a))) (h : Ev te σ H (.int b)) (k : ∀ H1, Ex H H1 → D.nx (σ.set i (some (g a b))) H1) : tAug i te (rI0 g) D σ H :=
  ⟨_, h1, h H (Ex.refl H) _ fun H1 e => ⟨a, b, rfl, rfl, k H1 e⟩⟩
theorem ev_atT {K : PySem.W.Frag} {σ : L2.St} {H : Hp} {tl ti : TE} {t : Addr} {xs : List V} {n : Int} {v : V} (h : Ev tl σ H (.ref t)) (hT : SqT K H t xs) (hi : Ev ti σ H (.int n)) (ha : atI xs n = some v) : Ev (tOp (rIxT K) tl ti) σ H v := fun H1 e Q q =>
  h H1 e _ fun H2 e2 => hi H2 (e.trans e2) _ fun H3 e3 => ⟨t, xs, n, v, rfl, rfl, ex_t ((e.trans e2).trans e3) hT, ha, q H3 (e2.trans e3)⟩
local macro_rules | `(tactic| walk_at "side") => `(tactic| first
  | omega
  | (show CDivW _ _; exact ⟨by omega, by decide⟩)
  | (show CDivW _ _; exact wide_div (b := 80) (by omega) (by omega) (by decide) (by decide)))
local macro_rules | `(tactic| walk_at "evown") => `(tactic| (refine' ev_int1 ?h1; (case h1 => walk_at "ev")))
/-- numbers from 0 on, as such -/
def cs (ds : List Nat) : List Int := ds.map fun d : Nat => (d : Int)
theorem cs_of {ns : List Int} {b : Int} (h : ∀ n ∈ ns, 0 ≤ n ∧ n < b) : ∃ ds : List Nat, ns = cs ds ∧ ds.length = ns.length ∧ ∀ d ∈ ds, (d : Int) < b := by
  refine ⟨ns.map Int.toNat, ?_, List.length_map .., fun d hd => ?_⟩
  · unfold cs
    rw [List.map_map]
    conv => lhs; rw [← List.map_id ns]
    refine List.map_congr_left fun n hn => ?_
    have := (h n hn).1
    show n = ((n.toNat : Nat) : Int)
    omega
  · obtain ⟨n, hn, rfl⟩ := List.mem_map.mp hd
    have := h n hn
    omega
theorem cs_len (ds : List Nat) : (cs ds).length = ds.length := List.length_map ..
theorem cs_at {ds : List Nat} {i : Nat} {d : Nat} (h : ds[i]? = some d) : (cs ds)[i]? = some (d : Int) := by unfold cs; rw [List.getElem?_map, h]; rfl
theorem cs_take (ds : List Nat) (i : Nat) : (cs ds).take i = cs (ds.take i) := by unfold cs; rw [List.map_take]
theorem cs_drop (ds : List Nat) (i : Nat) : (cs ds).drop i = cs (ds.drop i) := by unfold cs; rw [List.map_drop]
theorem cs_append (ds es : List Nat) : cs (ds ++ es) = cs ds ++ cs es := List.map_append ..

theorem ev_all {σ : L2.St} {H : Hp} {te : TE} {bs : List Bool} {b : Bool} (h : EvS K te σ H (bs.map V.bl)) (hb : bs.all id = b) : Ev (tCB (rAll K) (tCons te tNil)) σ H (.bl b) := fun H1 e Q q => h H1 e _ fun p H2 e2 hp => ⟨p, bs, rfl, hp, by rw [hb]; exact q H2 e2⟩

/-! ### own errors, made and looked at -/
theorem kitOne_ref {D C : Addr} {b : Bool} {fI : Addr} {nm : Str} (x : ExK K C fI nm) (h : PySem.W.subIn K (.ref D) (.ref C) = some b) (hD : PySem.W.subIn K (.ref D) (.ref D) = some true) : PySem.W.kitOne K (.ref D) (.ref C) = some b := by
  unfold PySem.W.kitOne
  by_cases e : D = C
  · subst e
    rw [hD] at h
    rw [if_pos (beq_self_eq_true _), ← h]
  · rw [if_neg (fun z => e (Value.ref.inj (beq_iff_eq.mp z)))]
    obtain ⟨cd, hc, _⟩ := PySem.W.any_some x.ex.hd
    show (if ((PySem.W.clsIn K C).isSome && PySem.W.typeIn K (.ref C) == some (.type "type")) = true then PySem.W.subIn K (.ref D) (.ref C) else none) = some b
    rw [if_pos (by rw [hc, x.tyC] <;> rfl), h]
theorem kitOne_VE {D : Addr} (h : PySem.W.subIn K (.ref D) (.type "ValueError") = some true) : PySem.W.kitOne K (.ref D) (.type "ValueError") = some true := by
  unfold PySem.W.kitOne
  rw [if_neg (fun z => by cases beq_iff_eq.mp z)]
  show (if PySem.W.kitMeta "ValueError" = true then PySem.W.subIn K (.ref D) (.type "ValueError") else none) = some true
  rw [if_pos (by decide +kernel), h]
theorem exm_su {D C : Addr} {b : Bool} {fI : Addr} {nm : Str} (x : ExK K C fI nm) (h : PySem.W.subIn K (.ref D) (.ref C) = some b) : PySem.W.exmOne K (.ref D) (.ref C) = some b := PySem.W.exm_ref x.ex.hs x.ex.hd x.tyC h
theorem ok_MonochordError_init (T : TX K mg) : FnOk P w K mg base CX0 1 T.a_MonochordError_init T.d_MonochordError_init ["self", "place"] (sp_einit K) := by
  refine T.F_MonochordError_init.ok sc_MonochordError_init (fun vs H Q E h => by obtain ⟨a, C, fI, nm, n, rfl, _⟩ := h; rfl) (fun cdv A outer s H vs Q E hr h => ?_)
  obtain ⟨a, C, fI, nm, n, rfl, T1, ha, k⟩ := h
  refine ⟨_, (pss_cons (ps_ost (pv 0) (pv 1))
      (pss_one (ps_ost (pv 0) (pe_clsname (pv 0))))), ?_⟩
  refine ⟨.int n, rfl, .ref a, rfl, a, C, rfl, T1.ox, T1.nP, .inl ⟨ha, fun dx hdx ne => ?_⟩⟩
  have h2 : upd (upd H dx (exd dx [("place", .int n)])) a (exo a C (some dx)) dx = some (exd dx [("place", .int n)]) := by rw [upd_ne ne]; exact upd_same
  refine ⟨.ref a, rfl, a, C, dx, [("place", .int n)], fI, nm, rfl, T1, upd_same, h2, .ref a, rfl, a, C, rfl, T1.ox, T1.nN, .inr ⟨dx, [("place", .int n)], upd_same, h2, Nat.le_of_ble_eq_true rfl, ?_⟩⟩
  refine k dx _ hdx ne (fun b o nb hb => ?_) ?_ upd_same
  · have nd : b ≠ dx := fun z => by rw [z, hdx] at hb; cases hb
    rw [upd_ne nd, upd_ne nb, upd_ne nd]
    exact hb
  · rw [upd_ne ne.symm]
    exact upd_same
/-- isinstance(error, c), error.f in the suite that holds it -/
theorem ev_isA {σ : L2.St} {H : Hp} {te : TE} {a C C2 dd : Addr} {cls : Value} {d : Option Addr} {fs : List (Str × V)} {b : Bool} (ha : Ev te σ H (.ref a)) (hc : cls = .ref C) (T : ExcC K C) (hd : d = some dd) (hx : H dd = some (.xd fs)) (hk : PySem.W.kitOne K (.ref C) (.ref C2) = some b) :
    Ev (tCB (rIsA K cls d a) (tCons te (tCons (tC (.ref C2)) tNil))) σ H (.bl b) := fun H1 e Q q =>
  ha H1 e _ fun H2 e2 => ⟨C, .ref C2, .ref C2, b, dd, fs, hc, T, hd, (e.trans e2) _ _ hx, rfl, fun u r => r, hk, q H2 e2⟩
theorem ev_isVE {σ : L2.St} {H : Hp} {te : TE} {a C dd : Addr} {cls : Value} {d : Option Addr} {fs : List (Str × V)} {b : Bool} (ha : Ev te σ H (.ref a)) (hc : cls = .ref C) (T : ExcC K C) (hd : d = some dd) (hx : H dd = some (.xd fs)) (hk : PySem.W.kitOne K (.ref C) (.type "ValueError") = some b) :
    Ev (tCB (rIsA K cls d a) (tCons te (tCons (tC (.ty "ValueError")) tNil))) σ H (.bl b) := fun H1 e Q q =>
  ha H1 e _ fun H2 e2 => ⟨C, .ty "ValueError", .type "ValueError", b, dd, fs, hc, T, hd, (e.trans e2) _ _ hx, rfl, fun u r => r, hk, q H2 e2⟩
theorem ev_xfA {σ : L2.St} {H : Hp} {te : TE} {a C dd : Addr} {cls : Value} {d : Option Addr} {f : Str} {fs : List (Str × V)} {v : V} (ha : Ev te σ H (.ref a)) (hc : cls = .ref C) (T : XfC K C) (hn : PySem.W.findIn K (.ref C) f = some none) (hd : d = some dd) (hx : H dd = some (.xd fs)) (hl : fs.lookup f = some v) :
    Ev (tXfA K a cls d f te) σ H v := fun H1 e Q q => ha H1 e _ fun H2 e2 => ⟨rfl, C, hc, T, hn, dd, fs, v, hd, (e.trans e2) _ _ hx, hl, q H2 e2⟩
/-! o.m(..) that may let an error out -/
section
variable {σ : L2.St} {H : Hp} {to : TE} {a C dx : Addr} {fs : List (Str × V)} {m : Str} {D : Ends} {tz : TS} {sp : Sp} {dvs vs : List V} {E : L2.St → XK} {t : TA} {v : V}
theorem mthX (h : Ev to σ H (.ref a)) (hx : H a = some (.ins C dx fs)) (hm : fs.lookup m = none) (ha : EvA t σ H vs) {Q : VK} (k : ∀ H1, Ex H H1 → sp (.ref a :: (vs ++ dvs)) H1 Q (E σ)) : tMethX C m sp dvs E to t σ H Q :=
  h H (Ex.refl H) _ fun H1 e1 => ⟨a, dx, fs, rfl, e1 _ _ hx, hm, ha H1 e1 _ fun H2 e2 => k H2 (e1.trans e2)⟩
theorem q_asgMX {i : Nat} (h : Ev to σ H (.ref a)) (hx : H a = some (.ins C dx fs)) (hm : fs.lookup m = none) (ha : EvA t σ H vs) (k : ∀ H1, Ex H H1 → sp (.ref a :: (vs ++ dvs)) H1 (fun x H2 => tz D (σ.set i (some x)) H2) (E σ)) : tSeq (tAsg (tMethX C m sp dvs E to t) (gName i)) tz D σ H := mthX h hx hm ha k
theorem s_retMX (h : Ev to σ H (.ref a)) (hx : H a = some (.ins C dx fs)) (hm : fs.lookup m = none) (ha : EvA t σ H vs) (k : ∀ H1, Ex H H1 → sp (.ref a :: (vs ++ dvs)) H1 D.rt (E σ)) : tRet (tMethX C m sp dvs E to t) D σ H := mthX h hx hm ha k
theorem q_asgCX {i : Nat} (h : EvA t σ H vs) (k : ∀ H1, Ex H H1 → sp (vs ++ dvs) H1 (fun x H2 => tz D (σ.set i (some x)) H2) (E σ)) : tSeq (tAsg (tCallX sp dvs E t) (gName i)) tz D σ H := h H (Ex.refl H) _ fun H1 e => k H1 e
theorem s_retCX (h : EvA t σ H vs) (k : ∀ H1, Ex H H1 → sp (vs ++ dvs) H1 D.rt (E σ)) : tRet (tCallX sp dvs E t) D σ H := h H (Ex.refl H) _ fun H1 e => k H1 e
end

/-! ### from what is evaluated to what follows -/
theorem ev_go {te : TE} {σ : L2.St} {H : Hp} {v : V} {Q : VK} (h : Ev te σ H v) (k : ∀ H2, Ex H H2 → Q v H2) : te σ H Q := h H (Ex.refl H) Q k
theorem et_go {t : TT} {σ : L2.St} {H : Hp} {b : Bool} {Q : Bool → Hp → Prop} (h : EvT t σ H b) (k : ∀ H2, Ex H H2 → Q b H2) : t σ H Q := h H (Ex.refl H) Q k
theorem el_go {te : TE} {σ : L2.St} {H : Hp} {xs : List V} {Q : VK} (h : EvL te σ H xs) (k : ∀ p H2, H p = none → Ex H H2 → H2 p = some (.lst xs) → Q (.ref p) H2) : te σ H Q := h H (Ex.refl H) Q k
theorem eu_go {te : TE} {σ : L2.St} {H : Hp} {xs : List V} {Q : VK} (h : EvU te σ H xs) (k : ∀ p H2, H p = none → Ex H H2 → H2 p = some (.tup xs) → Q (.ref p) H2) : te σ H Q := h H (Ex.refl H) Q k
theorem ea_go {t : TA} {σ : L2.St} {H : Hp} {vs : List V} {Q : List V → Hp → Prop} (h : EvA t σ H vs) (k : ∀ H2, Ex H H2 → Q vs H2) : t σ H Q := h H (Ex.refl H) Q k
/-! ### the law's state, a list of two numbers, which draws change -/
theorem et_tru {σ : L2.St} {H : Hp} {te : TE} {a : Addr} {xs : List V} (h : Ev te σ H (.ref a)) (hs : SqL K H a xs) : EvT (fun σ H Q => te σ H fun x H' => ∃ k, TruV K x H' k ∧ Q k H') σ H (!xs.isEmpty) := fun H1 e Q q => h H1 e _ fun H2 e2 => ⟨_, .inl ⟨xs, ex_l (e.trans e2) hs, rfl⟩, q H2 e2⟩
def StAt (H : Hp) (s : Addr) : Prop := ∃ k c : Int, H s = some (.lst [.int k, .int c])
def Fr (s : Addr) (H H' : Hp) : Prop := (∀ b o, b ≠ s → H b = some o → H' b = some o) ∧ StAt H' s
theorem Fr.refl {s : Addr} {H : Hp} (st : StAt H s) : Fr s H H := ⟨fun _ _ _ h => h, st⟩
theorem Fr.ex {s : Addr} {H H' : Hp} (st : StAt H s) (e : Ex H H') : Fr s H H' := ⟨fun b o _ h => e b o h, by obtain ⟨k, c, h⟩ := st; exact ⟨k, c, e _ _ h⟩⟩
theorem Fr.trans {s : Addr} {H H1 H2 : Hp} (h : Fr s H H1) (g : Fr s H1 H2) : Fr s H H2 := ⟨fun b o n e => g.1 b o n (h.1 b o n e), g.2⟩
theorem Fr.tex {s : Addr} {H H1 H2 : Hp} (h : Fr s H H1) (e : Ex H1 H2) : Fr s H H2 := h.trans (Fr.ex h.2 e)
theorem Fr.fresh {s p : Addr} {H H' : Hp} (h : Fr s H H') (hp : H' p = none) : H p = none := by
  have hs : p ≠ s := by
    rintro rfl
    obtain ⟨k, c, g⟩ := h.2
    rw [g] at hp
    cases hp
  cases e : H p with
  | none => rfl
  | some o =>
    have := h.1 p o hs e
    rw [this] at hp
    cases hp
theorem ne_st {s p : Addr} {H : Hp} (st : StAt H s) (hp : H p = none) : p ≠ s := by
  rintro rfl
  obtain ⟨k, c, g⟩ := st
  rw [g] at hp
  cases hp
theorem Fr.mut {s p : Addr} {H H1 : Hp} {o : HO} (h : Fr s H H1) (hp : H p = none) (hs : p ≠ s) : Fr s H (upd H1 p o) := ⟨fun b u n e => by rw [upd_ne (ne_of_none e hp)]; exact h.1 b u n e, by obtain ⟨k, c, g⟩ := h.2; exact ⟨k, c, by rw [upd_ne (Ne.symm hs)]; exact g⟩⟩
theorem Fr.l {s a : Addr} {H H' : Hp} {xs : List V} (h : Fr s H H') (hs : a ≠ s) (q : H a = some (.lst xs)) : H' a = some (.lst xs) := h.1 a _ hs q
/-- a list, seen through all draws -/
def Scr (K : PySem.W.Frag) (s a : Addr) (H : Hp) (xs : List V) : Prop := ∀ H', Fr s H H' → SqL K H' a xs
theorem scr_mk {s a : Addr} {H H1 : Hp} {xs : List V} (hs : H s = none) (e : Ex H H1) (q : SqL K H a xs) : Scr K s a H1 xs := fun H' fr => by
  rcases q with q | q
  · rcases q with q | ⟨o, q⟩
    · exact .inl (.inl (fr.1 _ _ (ne_of_none q hs) (e _ _ q)))
    · exact .inl (.inr ⟨o, fr.1 _ _ (ne_of_none q hs) (e _ _ q)⟩)
  · exact .inr q
def DrS (K : PySem.W.Frag) (H : Hp) (s a : Addr) (ns : List Int) : Prop := StAt H s ∧ Scr K s a H (ns.map V.int)
theorem DrS.fr {H H' : Hp} {s a : Addr} {ns : List Int} (h : DrS K H s a ns) (f : Fr s H H') : DrS K H' s a ns := ⟨f.2, fun H2 g => h.2 H2 (f.trans g)⟩
theorem DrS.ex {H H' : Hp} {s a : Addr} {ns : List Int} (h : DrS K H s a ns) (e : Ex H H') : DrS K H' s a ns := h.fr (Fr.ex h.1 e)
theorem DrS.sq {H : Hp} {s a : Addr} {ns : List Int} (h : DrS K H s a ns) : SqL K H a (ns.map V.int) := h.2 H (Fr.refl h.1)
/-! numbers, tests that draw on the way -/
def EvI (s : Addr) (te : TE) (σ : L2.St) (H : Hp) (p : Int → Prop) : Prop := ∀ Q : VK, (∀ i H2, Fr s H H2 → p i → Q (.int i) H2) → te σ H Q
def EvTW (s : Addr) (t : TT) (σ : L2.St) (H : Hp) (p : Bool → Prop) : Prop := ∀ Q : Bool → Hp → Prop, (∀ b H2, Fr s H H2 → p b → Q b H2) → t σ H Q
section
variable {s : Addr} {σ : L2.St} {H : Hp} {ta tb te : TE} {p q : Int → Prop}
theorem wi_ev {i : Int} (st : StAt H s) (h : Ev te σ H (.int i)) : EvI s te σ H (fun z => z = i) := fun Q q => h H (Ex.refl H) _ fun H2 e2 => q i H2 (Fr.ex st e2) rfl
theorem wi_imp {p q : Int → Prop} (h : EvI s te σ H p) (hi : ∀ z, p z → q z) : EvI s te σ H q := fun Q k => h Q fun i H2 f hp => k i H2 f (hi i hp)
theorem wi_op {g : Int → Int → Int} (ha : EvI s ta σ H p) (hb : ∀ H1, Fr s H H1 → EvI s tb σ H1 q) : EvI s (tOp (rI0 fun i j => .int (g i j)) ta tb) σ H (fun z => ∃ i j, p i ∧ q j ∧ z = g i j) := fun Q k =>
  ha _ fun i H1 f1 hp => hb H1 f1 _ fun j H2 f2 hq => ⟨i, j, rfl, rfl, k _ H2 (f1.trans f2) ⟨i, j, hp, hq, rfl⟩⟩
theorem wi_opC {C : Int → Int → Prop} {g : Int → Int → Int} (ha : EvI s ta σ H p) (hb : ∀ H1, Fr s H H1 → EvI s tb σ H1 q) (hc : ∀ i j, p i → q j → C i j) : EvI s (tOp (rI C fun i j => .int (g i j)) ta tb) σ H (fun z => ∃ i j, p i ∧ q j ∧ z = g i j) := fun Q k =>
  ha _ fun i H1 f1 hp => hb H1 f1 _ fun j H2 f2 hq => ⟨i, j, rfl, rfl, hc i j hp hq, k _ H2 (f1.trans f2) ⟨i, j, hp, hq, rfl⟩⟩
theorem wt_cmp {g : Int → Int → Bool} (ha : EvI s ta σ H p) (hb : ∀ H1, Fr s H H1 → EvI s tb σ H1 q) : EvTW s (tTest (tOp (rI0 fun i j => .bl (g i j)) ta tb)) σ H (fun b => ∃ i j, p i ∧ q j ∧ b = g i j) := fun Q k =>
  ha _ fun i H1 f1 hp => hb H1 f1 _ fun j H2 f2 hq => ⟨i, j, rfl, rfl, g i j, rfl, k _ H2 (f1.trans f2) ⟨i, j, hp, hq, rfl⟩⟩
theorem wt_eq (ha : EvI s ta σ H p) (hb : ∀ H1, Fr s H H1 → EvI s tb σ H1 q) : EvTW s (tTest (tOp rEq ta tb)) σ H (fun b => ∃ i j, p i ∧ q j ∧ b = decide (i = j)) := fun Q k =>
  ha _ fun i H1 f1 hp => hb H1 f1 _ fun j H2 f2 hq => ⟨rfl, decide (V.int i = V.int j), rfl, k _ H2 (f1.trans f2) ⟨i, j, hp, hq, by simp⟩⟩
theorem wt_ev {t : TT} {b : Bool} (st : StAt H s) (h : EvT t σ H b) : EvTW s t σ H (fun z => z = b) := fun Q q => h H (Ex.refl H) _ fun H2 e2 => q b H2 (Fr.ex st e2) rfl
theorem wt_and {t u : TT} {p q : Bool → Prop} (h1 : EvTW s t σ H p) (h2 : ∀ H1, Fr s H H1 → p true → EvTW s u σ H1 q) : EvTW s (tAnd t u) σ H (fun b => (p false ∧ b = false) ∨ (p true ∧ q b)) := fun Q k => h1 _ fun b H1 f1 hb => by
  cases b with
  | true => exact h2 H1 f1 hb _ fun c H2 f2 hc => k c H2 (f1.trans f2) (.inr ⟨hb, hc⟩)
  | false => exact k false H1 f1 (.inl ⟨hb, rfl⟩)
theorem wt_not {t : TT} {p : Bool → Prop} (h1 : EvTW s t σ H p) : EvTW s (tNot t) σ H (fun b => p (!b)) := fun Q k => h1 _ fun b H1 f1 hb => k (!b) H1 f1 (by show p (!!b); rw [Bool.not_not]; exact hb)
variable {D : Ends} {tz tu : TS}
theorem qw_asg {j : Nat} (h : EvI s te σ H p) (k : ∀ i H1, Fr s H H1 → p i → tz D (σ.set j (some (.int i))) H1) : tSeq (tAsg te (gName j)) tz D σ H := h _ k
theorem sw_asg {j : Nat} (h : EvI s te σ H p) (k : ∀ i H1, Fr s H H1 → p i → D.nx (σ.set j (some (.int i))) H1) : tAsg te (gName j) D σ H := h _ k
theorem sw_ret (h : EvI s te σ H p) (k : ∀ i H1, Fr s H H1 → p i → D.rt (.int i) H1) : tRet te D σ H := h _ k
theorem qw_when {t : TT} {p : Bool → Prop} (h : EvTW s t σ H p) (h1 : p true → ∀ H1, Fr s H H1 → tu { D with nx := tz D } σ H1) (h2 : p false → ∀ H1, Fr s H H1 → tz D σ H1) : tSeq (tIfS t tu tNext) tz D σ H := h _ fun b H1 f hb => by
  cases b with
  | true => exact h1 hb H1 f
  | false => exact h2 hb H1 f
theorem sw_when {t : TT} {p : Bool → Prop} (h : EvTW s t σ H p) (h1 : p true → ∀ H1, Fr s H H1 → tu D σ H1) (h2 : p false → ∀ H1, Fr s H H1 → D.nx σ H1) : tIfS t tu tNext D σ H := h _ fun b H1 f hb => by
  cases b with
  | true => exact h1 hb H1 f
  | false => exact h2 hb H1 f
theorem sw_if {t : TT} {tw : TS} {p : Bool → Prop} (h : EvTW s t σ H p) (h1 : p true → ∀ H1, Fr s H H1 → tu D σ H1) (h2 : p false → ∀ H1, Fr s H H1 → tw D σ H1) : tIfS t tu tw D σ H := h _ fun b H1 f hb => by
  cases b with
  | true => exact h1 hb H1 f
  | false => exact h2 hb H1 f
theorem qw_forR1 {j : Nat} (h : EvI s te σ H p) (hp : ∀ i, p i → 0 ≤ i ∧ i ≤ 100000) (Pv : Int → Nat → L2.St → Hp → Prop) (h0 : ∀ n H1, p n → Fr s H H1 → Pv n 0 σ H1)
    (hs : ∀ n (i : Nat) σ' H', p n → (i : Int) < n → Pv n i σ' H' → tu { D with nx := Pv n (i + 1), ct := Pv n (i + 1), bk := tz D } (σ'.set j (some (.int (i : Int)))) H') (hd : ∀ n σ' H', p n → Pv n n.toNat σ' H' → tz D σ' H') : tSeq (tFor (iRng1 (tCons te tNil)) (gName j) tu) tz D σ H :=
  h _ fun n H1 f hn => ⟨n, rfl, by have := hp n hn; omega, by have := hp n hn; omega, for_range (D := { D with nx := tz D }) (lo := 0) (n := n.toNat) (Pv n) (h0 n H1 hn f) (fun i σ' H' hi q => by
    have e0 : (0 : Int) + (i : Int) = (i : Int) := Int.zero_add _
    show tu { D with nx := Pv n (i + 1), ct := Pv n (i + 1), bk := tz D } (σ'.set j (some (.int ((0 : Int) + (i : Int))))) H'
    rw [e0]
    exact hs n i σ' H' hn (by have := hp n hn; omega) q) fun σ' H' q => hd n σ' H' hn q⟩
end
/-- [e for j in range(n)] whose element draws -/
theorem tlc_rngW {ta : TA} {te : TE} {vs : List Nat} {n : Int} {j : Nat} {σ : L2.St} {H : Hp} {Q : VK} (h : EvA ta σ H [.int n]) (hn : -100000 ≤ n ∧ n ≤ 100000)
    (k : ∀ H1, Ex H H1 → ∀ Dl, H1 Dl = none → ∃ Pv : Nat → Hp → Prop, Pv 0 (upd H1 Dl (.lst [])) ∧ (∀ (i : Nat) H', i < n.toNat → Pv i H' → wipe ((wipe σ vs).set j (some (.int (i : Int)))) vs = wipe σ vs ∧ te ((wipe σ vs).set j (some (.int (i : Int)))) H' fun y H4 => ∃ acc, H4 Dl = some (.lst acc) ∧ acc.length < sizeLine ∧ Pv (i + 1) (upd H4 Dl (.lst (acc ++ [y])))) ∧ (∀ H', Pv n.toNat H' → Q (.ref Dl) H')) :
    tLc (iRng1 ta) (gName j) tYes te vs σ H Q := h H (Ex.refl H) _ fun H1 e1 => ⟨n, rfl, by omega, by omega, fun Dl hD => by
  obtain ⟨Pv, h0, hs, hd⟩ := k H1 e1 Dl hD
  refine lc_range (lo := 0) (n := n.toNat) Pv h0 (fun i H' hi p => ?_) hd
  rw [Int.zero_add]
  exact hs i H' hi p⟩
/-- xs[j] = e, e of a kind -/
theorem q_setLR {σ : L2.St} {H : Hp} {te ta tb : TE} {l : Addr} {xs : List V} {j : Nat} {D : Ends} {tz : TS} {P : V → Prop} (h : ∀ Q : VK, (∀ v H1, Ex H H1 → P v → Q v H1) → te σ H Q) (hl : H l = some (.lst xs)) (ho : ∀ H1, Ev ta σ H1 (.ref l)) (hi : ∀ H1, Ev tb σ H1 (.int (j : Int))) (hj : j < xs.length) (k : ∀ v H1, P v → Ex H H1 → tz D σ (upd H1 l (.lst (xs.set j v)))) : tSeq (tAsg te (gSub ta tb rSetL)) tz D σ H :=
  h _ fun v H1 e1 hv => ho H1 H1 (Ex.refl _) _ fun H2 e2 => hi H2 H2 (Ex.refl _) _ fun H3 e3 => ⟨l, xs, (j : Int), j, rfl, rfl, ((e1.trans e2).trans e3) l _ hl, ixN_nat hj, k v H3 hv ((e1.trans e2).trans e3)⟩
/-! ### the law's draws -/
def sp_isint : Sp := fun vs H Q _ => ∃ n : Int, vs = [.int n] ∧ RetV (.bl true) H Q
theorem ok_law_is_integer (T : TX K mg) : FnOk P w K mg base CX0 1 T.a_law_is_integer T.d_law_is_integer ["actual"] sp_isint := by
  refine T.F_law_is_integer.ok sc_law_is_integer (fun vs H Q E h => by obtain ⟨n, rfl, _⟩ := h; rfl) (fun cdv A outer s H vs Q E hr h => ?_)
  obtain ⟨n, rfl, k⟩ := h
  refine ⟨_, (pss_one (ps_ret (pe_and (pe_callB (r := rIsi K) call_isi (by rfl) T.m_isinstance PyProof.Rows.boot_isinstance (pa_cons (pv 0) (pa_cons (pe_bltn (v := V.ty "int") (by rfl) T.m_int PyProof.Rows.boot_int rfl) pa_nil))) (pe_one (pe_not (pe_callB (r := rIsi K) call_isi (by rfl) T.m_isinstance PyProof.Rows.boot_isinstance (pa_cons (pv 0) (pa_cons (pe_bltn (v := V.ty "bool") (by rfl) T.m_bool PyProof.Rows.boot_bool rfl) pa_nil)))))))), ?_⟩
  walk_at "ret"
  intro H2 e2
  exact ret_eq k e2 rfl
theorem ev_isint {σ : L2.St} {H : Hp} {te : TE} {E : XK} {n : Int} (h : Ev te σ H (.int n)) : Ev (tCall sp_isint [] E (tCons te tNil)) σ H (.bl true) := ev_call (ea_cons h ea_nil) fun H1 _ Q q _ => ⟨n, rfl, q⟩

def sp_refill (K : PySem.W.Frag) : Sp := fun vs H Q _ => ∃ (a : Addr) (ns : List Int) (k : Int), vs = [.ref a, .int k] ∧ SqL K H a (ns.map V.int) ∧ ∀ c : Int, RetV (.int c) H Q
theorem ok_law_refill (T : TX K mg) : FnOk P w K mg base CX0 1 T.a_law_refill T.d_law_refill ["script", "k"] (sp_refill K) := by
  refine T.F_law_refill.ok sc_law_refill (fun vs H Q E h => by obtain ⟨a, ns, k, rfl, _⟩ := h; rfl) (fun cdv A outer s0 H vs Q E hr h => ?_)
  obtain ⟨a, ns, k, rfl, hS, q⟩ := h
  refine ⟨_, (pss_cons (ps_set (i := 2) sc_law_refill.nd rfl (Or.inl rfl) pe_int)
      (pss_cons (ps_if (pt_truth (pv 0) (by intro _; rfl)) (pss_one (ps_set (i := 2) sc_law_refill.nd rfl (Or.inl rfl) (pe_ix (r := rIxL K) ix_list (pv 0) (pe_op op_mod (pv 1) (pe_callB (r := rLenS K) call_len_seq (by rfl) T.m_len PySem.boot_len (pa_cons (pv 0) pa_nil))) (fun _ _ => rfl)))) pss_nil)
      (pss_cons (ps_if (pt_cmpR op_lt (pv 2) pe_int (nomark _)) (pss_one (ps_set (i := 2) sc_law_refill.nd rfl (Or.inl rfl) (pe_op op_sub pe_int (pe_op op_mul pe_int (pv 2))))) pss_nil)
      (pss_cons (ps_if (PW.pt (pw_and (pt_cmpR op_ge (pv 2) (pe_op op_pow pe_int pe_int) (nomark _)) (pw_and1 (pt_cmpR op_lt (pv 1) (pe_callB (r := rLenS K) call_len_seq (by rfl) T.m_len PySem.boot_len (pa_cons (pv 0) pa_nil)) (nomark _))))) (pss_one (ps_ret (pv 2))) pss_nil)
      (pss_one (ps_ret (pe_op op_mod (pe_callTy call_int1 (by rfl) T.m_int PyProof.Rows.boot_int (pa_cons (pe_op op_add (pe_op op_mul (pe_callTy call_int1 (by rfl) T.m_int PyProof.Rows.boot_int (pa_cons (pe_op op_add (pe_op op_add (pe_op op_mul (pv 2) pe_int) (pe_op op_mul (pv 1) pe_int)) pe_int) pa_nil)) pe_int) pe_int) pa_nil)) pe_int))))))), ?_⟩
  refine q_asg ev_c fun H1 e1 => ?_
  have hl : (ns.map V.int).length = ns.length := List.length_map ..
  have rest : ∀ (c : Int) (H2 : Hp), Ex H H2 → tSeq (tIfS (tTest (tOp (rI0 fun i j => .bl (decide (i < j))) (tVar 2) (tC (.int 0)))) (tAsg (tOp (rI0 fun i j => .int (i - j)) (tC (.int 1)) (tOp (rI CMul fun i j => .int (i * j)) (tC (.int 2)) (tVar 2))) (gName 2)) tNext) (tSeq (tIfS (tAnd (tTest (tOp (rI0 fun i j => .bl (decide (j ≤ i))) (tVar 2) (tOp (rI CPow fun i j => .int (i ^ j.toNat)) (tC (.int 10)) (tC (.int 18))))) (tTest (tOp (rI0 fun i j => .bl (decide (i < j))) (tVar 1) (tCB (rLenS K) (tCons (tVar 0) tNil))))) (tRet (tVar 2)) tNext) (tRet (tOp (rI (fun _ j => 0 < j) fun i j => .int (i % j)) (tCB (fun xs H Q => (∃ i, xs = [V.int i] ∧ Q (V.int i) H) ∨ ∃ k, xs = [V.bl k] ∧ Q (V.int (if k = true then 1 else 0)) H) (tCons (tOp (rI0 fun i j => .int (i + j)) (tOp (rI CMul fun i j => .int (i * j)) (tCB (fun xs H Q => (∃ i, xs = [V.int i] ∧ Q (V.int i) H) ∨ ∃ k, xs = [V.bl k] ∧ Q (V.int (if k = true then 1 else 0)) H) (tCons (tOp (rI0 fun i j => .int (i + j)) (tOp (rI0 fun i j => .int (i + j)) (tOp (rI CMul fun i j => .int (i * j)) (tVar 2) (tC (.int 48271))) (tOp (rI CMul fun i j => .int (i * j)) (tVar 1) (tC (.int 69621)))) (tC (.int 12345))) tNil)) (tC (.int 40692))) (tC (.int 7))) tNil)) (tC (.int 2147483399))))) { nx := fun _ H' => Q .non H', rt := Q } [some (.ref a), some (.int k), some (.int c)] H2 := fun c H2 e2 => by
    obtain ⟨c1, hc1⟩ : ∃ c1 : Int, (if c < 0 then 1 - 2 * c else c) = c1 := ⟨_, rfl⟩
    refine q_ifAsg (b := decide (c < 0)) (v := .int c1) (et_test (ev_I0 (ev_var rfl) ev_c)) (fun h => Ev.is (ev_I0 ev_c (ev_I ev_c (ev_var rfl) (.inl (by decide)))) (congrArg V.int (by rw [← hc1, if_pos (of_decide_eq_true h)]))) (fun h => by rw [← hc1, if_neg (of_decide_eq_false h)]; rfl) fun H3 e3 => ?_
    refine q_when (et_and (et_test (ev_I0 (ev_var rfl) (ev_I ev_c ev_c ⟨by decide, by decide, by decide⟩))) fun _ => et_test (ev_I0 (ev_var rfl) (ev_lenS (Ev.s (ev_var rfl) (ex_l (e2.trans e3) hS))))) (fun _ H4 e4 => ?_) (fun _ H4 e4 => ?_)
    · exact s_ret (ev_var rfl) fun H5 e5 => (q _).go ((e2.trans e3).trans (e4.trans e5))
    · exact s_ret (ev_I (ev_int1 (ev_I0 (ev_I (ev_int1 (ev_I0 (ev_I0 (ev_I (ev_var rfl) ev_c (.inr (by decide))) (ev_I (ev_var rfl) ev_c (.inr (by decide)))) ev_c)) ev_c (.inr (by decide))) ev_c)) ev_c (by decide)) fun H5 e5 => (q _).go ((e2.trans e3).trans (e4.trans e5))
  refine q_when (et_tru (ev_var rfl) (ex_l e1 hS)) (fun hb H2 e2 => ?_) (fun _ H2 e2 => rest 0 H2 (e1.trans e2))
  have h0 : 0 < ns.length := by
    cases ns with
    | nil => cases hb
    | cons x r => rw [List.length_cons]; omega
  have h1 := Int.emod_nonneg k (show (ns.length : Int) ≠ 0 by omega)
  have h2 := Int.emod_lt_of_pos k (show (0 : Int) < ns.length by omega)
  refine s_asg (v := .int (ns.getD (k % (ns.length : Int)).toNat 0)) (ev_ixS (i := 0) (n := k % (ns.length : Int)) (Ev.s (ev_var rfl) (ex_l (e1.trans e2) hS)) (ev_I (ev_var rfl) (Ev.is (ev_lenS (Ev.s (ev_var rfl) (ex_l (e1.trans e2) hS))) (by rw [hl])) (by omega)) (at_of (j := (k % (ns.length : Int)).toNat) (by omega) (at_int (gl_get (by omega))))) fun H3 e3 => rest _ H3 (e1.trans (e2.trans e3))
def sp_draw (K : PySem.W.Frag) : Sp := fun vs H Q _ => ∃ (s a : Addr) (ns : List Int) (n : Int), vs = [.ref s, .ref a, .int n] ∧ DrS K H s a ns ∧ 0 < n ∧ n ≤ 2 ^ 80 ∧ ∀ (d : Nat) H', (d : Int) < n → Fr s H H' → Q (.int (d : Int)) H'
theorem ok_law_draw (T : TX K mg) : FnOk P w K mg base CX0 2 T.a_law_draw T.d_law_draw ["state", "script", "size"] (sp_draw K) := by
  refine T.F_law_draw.ok sc_law_draw (fun vs H Q E h => by obtain ⟨s, a, ns, n, rfl, _⟩ := h; rfl) (fun cdv A outer s0 H vs Q E hr h => ?_)
  obtain ⟨s, a, ns, n, rfl, hd, hn0, hn, k⟩ := h
  have hn' : n ≤ 1208925819614629174706176 := hn
  have hlog : n.natAbs.log2 < 9000 := by
    have : n.natAbs < 2 ^ 81 := by omega
    have := (Nat.log2_lt (n := n.natAbs) (k := 81) (by omega)).mpr this
    omega
  refine ⟨_, (pss_cut (ps_if (pt_cmpR op_eq (pe_ix (r := rIxL K) ix_list (pv 0) pe_int (fun _ _ => rfl)) pe_int (nomark _)) (pss_cons (ps_asg (pe_call (ok_law_refill T) (hr.mono (by decide)) (by rfl) T.g_law_refill T.F_law_refill.kp T.b_law_refill .nil pass0 (pa_cons (pv 1) (pa_cons (pe_ix (r := rIxL K) ix_list (pv 0) pe_int (fun _ _ => rfl)) pa_nil))) (pg_sub (pv 0) pe_int set_list))
        (pss_one (ps_asg (pe_op op_add (pe_ix (r := rIxL K) ix_list (pv 0) pe_int (fun _ _ => rfl)) pe_int) (pg_sub (pv 0) pe_int set_list)))) pss_nil)
      (pss_cons (ps_set (i := 3) sc_law_draw.nd rfl (Or.inl rfl) (pe_op op_mod (pe_callTy call_int1 (by rfl) T.m_int PyProof.Rows.boot_int (pa_cons (pe_ix (r := rIxL K) ix_list (pv 0) pe_int (fun _ _ => rfl)) pa_nil)) (pv 2)))
      (pss_cons (ps_asg (pe_op op_fdivW (pe_ix (r := rIxL K) ix_list (pv 0) pe_int (fun _ _ => rfl)) (pv 2)) (pg_sub (pv 0) pe_int set_list))
      (pss_one (ps_ret (pv 3)))))), ?_⟩
  refine q_cut (M := fun σ' H' => ∃ kk cc : Int, σ' = [some (.ref s), some (.ref a), some (.int n), none] ∧ (∀ b o, b ≠ s → H b = some o → H' b = some o) ∧ H' s = some (.lst [.int kk, .int cc])) ?_ ?_
  · obtain ⟨kk, cc, g⟩ := hd.1
    refine s_when (et_test (ev_eq (ev_ixS (i := 0) (n := 1) (Ev.s (ev_var rfl) (sq_of g)) ev_c (at_of (j := 1) rfl rfl)) ev_c rfl)) (fun _ H1 e1 => ?_) (fun _ H1 e1 => ⟨kk, cc, rfl, fun b o _ h => e1 b o h, e1 _ _ g⟩)
    have g1 := e1 _ _ g
    refine q_setLR (l := s) (xs := [.int kk, .int cc]) (j := 1) (P := fun v => ∃ c : Int, v = .int c) (fun Q' q' => (ea_cons (ev_var rfl) (ea_cons (ev_ixS (K := K) (i := 0) (n := 0) (v := .int kk) (xs := [.int kk, .int cc]) (Ev.s (ev_var rfl) (sq_of g1)) ev_c (at_of (j := 0) rfl rfl)) ea_nil)) H1 (Ex.refl _) _ fun H2 e2 => ⟨a, ns, kk, rfl, (hd.ex (e1.trans e2)).sq, fun c H3 e3 => q' _ _ (e2.trans e3) ⟨c, rfl⟩⟩) g1 (fun _ => ev_var rfl) (fun _ => ev_c) (Nat.le_of_ble_eq_true rfl) fun v H2 hv e2 => ?_
    obtain ⟨c, rfl⟩ := hv
    have u2 : (upd H2 s (.lst [V.int kk, V.int c])) s = some (.lst [V.int kk, V.int c]) := upd_same
    refine s_setL (l := s) (j := 0) (v := .int (kk + 1)) u2 (ev_I0 (ev_ixS (i := 0) (n := 0) (Ev.s (ev_var rfl) (sq_of u2)) ev_c (at_of (j := 0) rfl rfl)) ev_c) (ev_var rfl) ev_c (Nat.le_of_ble_eq_true rfl) fun H3 e3 => ⟨kk + 1, c, rfl, fun b o hb h => ?_, upd_same⟩
    rw [upd_ne hb]
    exact e3 _ _ (by rw [upd_ne hb]; exact e2 _ _ (e1 _ _ h))
  · rintro σ' H1 ⟨kk, cc, rfl, fr, g⟩
    have h0 := Int.emod_nonneg cc (show n ≠ 0 by omega)
    have h1 := Int.emod_lt_of_pos cc hn0
    obtain ⟨d, hd'⟩ : ∃ d : Nat, cc % n = (d : Int) := ⟨(cc % n).toNat, by omega⟩
    refine q_asg (v := .int (d : Int)) (Ev.is (ev_I (ev_int1 (ev_ixS (i := 0) (n := 1) (Ev.s (ev_var rfl) (sq_of g)) ev_c (at_of (j := 1) rfl rfl))) (ev_var rfl) hn0) (congrArg V.int hd')) fun H2 e2 => ?_
    refine q_setL (l := s) (j := 1) (v := .int (cc / n)) (e2 _ _ g) (ev_I (ev_ixS (i := 0) (n := 1) (Ev.s (ev_var rfl) (sq_of (e2 _ _ g))) ev_c (at_of (j := 1) rfl rfl)) (ev_var rfl) ⟨hn0, hlog⟩) (ev_var rfl) ev_c (Nat.le_of_ble_eq_true rfl) fun H3 e3 => ?_
    refine s_ret (v := .int (d : Int)) (ev_var rfl) fun H4 e4 => k d H4 (by omega) ⟨fun b o hb h => e4 _ _ (by rw [upd_ne hb]; exact e3 _ _ (e2 _ _ (fr b o hb h))), ⟨kk, cc / n, e4 _ _ upd_same⟩⟩
theorem wi_draw {s a : Addr} {ns : List Int} {σ : L2.St} {H : Hp} {tn : TE} {E : XK} {n : Int} {i j : Nat} (hd : DrS K H s a ns) (h1 : σ[i]? = some (some (.ref s))) (h2 : σ[j]? = some (some (.ref a))) (h3 : Ev tn σ H (.int n)) (h0 : 0 < n) (hn : n ≤ 2 ^ 80) :
    EvI s (tCall (sp_draw K) [] E (tCons (tVar i) (tCons (tVar j) (tCons tn tNil)))) σ H (fun z => ∃ d : Nat, z = (d : Int) ∧ (d : Int) < n) := fun Q q =>
  (ea_cons (ev_var h1) (ea_cons (ev_var h2) (ea_cons h3 ea_nil))) H (Ex.refl _) _ fun H1 e1 => ⟨s, a, ns, n, rfl, hd.ex e1, h0, hn, fun d H2 hdn f => q _ H2 ((Fr.ex hd.1 e1).trans f) ⟨d, rfl, hdn⟩⟩

def sp_junk (K : PySem.W.Frag) : Sp := fun vs H Q _ => ∃ (s a : Addr) (ns : List Int) (m : Nat), vs = [.ref s, .ref a, .int (m : Int)] ∧ DrS K H s a ns ∧ m ≤ 1000 ∧ ∀ p (ds : List Nat) H', H p = none → Fr s H H' → H' p = some (.lst ((cs ds).map V.int)) → ds.length = m → (∀ d ∈ ds, d < 256) → Q (.ref p) H'
theorem ok_law_junk (T : TX K mg) : FnOk P w K mg base CX0 3 T.a_law_junk T.d_law_junk ["state", "script", "count"] (sp_junk K) := by
  refine T.F_law_junk.ok sc_law_junk (fun vs H Q E h => by obtain ⟨s, a, ns, m, rfl, _⟩ := h; rfl) (fun cdv A outer s0 H vs Q E hr h => ?_)
  obtain ⟨s, a, ns, m, rfl, hd, hm, k⟩ := h
  refine ⟨_, (pss_one (ps_ret (pe_lc (own := [("k", 3)]) (g := gName 3) (tt := tYes) rfl sc_law_junk.nd (pi_range1 (by rfl) T.m_range (pa_cons (pv 2) pa_nil)) (blkOk_by (N := ["state", "script", "count", "k"]) (sc := defScope s_law_junk) (by decide +kernel)) (fun _ _ _ _ _ => pg_name (i := 3) sc_law_junk.nd rfl (Or.inl rfl)) (fun _ _ _ _ _ => pts_nil) (fun _ _ _ _ _ => (pe_call (ok_law_draw T) (hr.mono (by decide)) (by rfl) T.g_law_draw T.F_law_draw.kp T.b_law_draw .nil pass0 (pa_cons (pv 0) (pa_cons (pv 1) (pa_cons pe_int pa_nil)))))))), ?_⟩
  refine tlc_rngW (n := (m : Int)) (ea_cons (ev_var rfl) ea_nil) (by omega) fun H1 e1 Dl hD => ⟨fun i H' => ∃ ds : List Nat, Fr s H H' ∧ H' Dl = some (.lst ((cs ds).map V.int)) ∧ ds.length = i ∧ ∀ d ∈ ds, d < 256, ⟨[], ?_, upd_same, rfl, fun d hd => by cases hd⟩, ?_, ?_⟩
  · exact Fr.ex hd.1 (Ex.mut e1 (fresh_back e1 hD))
  · rintro i H' hi ⟨ds, f, g, hl, hb⟩
    have hi : i < m := by omega
    have hDs : Dl ≠ s := ne_st hd.1 (fresh_back e1 hD)
    refine ⟨rfl, wi_draw (hd.fr f) rfl rfl ev_c (by decide) (by decide) _ fun z H2 f2 hz => ?_⟩
    obtain ⟨d, rfl, hdn⟩ := hz
    refine ⟨(cs ds).map V.int, f2.l hDs g, sz_lt (by rw [List.length_map, cs_len]; omega), ds ++ [d], (f.trans f2).mut (fresh_back e1 hD) hDs, ?_, by rw [List.length_append, hl]; rfl, fun y hy => ?_⟩
    · rw [upd_same, cs_append, List.map_append]
      rfl
    · rcases List.mem_append.mp hy with h | h
      · exact hb y h
      · rw [List.mem_singleton.mp h]
        omega
  · rintro H' ⟨ds, f, g, hl, hb⟩
    exact k Dl ds H' (fresh_back e1 hD) f g (by omega) hb
theorem and_mask255 (x : Nat) : Builtin.bitAnd (x : Int) 255 = ((x % 256 : Nat) : Int) := by
  have h := _root_.Bits.bitAnd_mask (x := (x : Int)) 8 (by omega)
  have e : (2 : Int) ^ 8 - 1 = 255 := rfl
  rw [e] at h
  rw [h]
  have e2 : (2 : Int) ^ 8 = 256 := rfl
  rw [e2]
  omega
def bigB (x n : Nat) : List Nat := (List.range n).map fun k => x / 2 ^ (8 * (n - 1 - k)) % 256
theorem bigB_len (x n : Nat) : (bigB x n).length = n := by unfold bigB; rw [List.length_map, List.length_range]
theorem bigB_lt (x n : Nat) : ∀ d ∈ bigB x n, d < 256 := fun d hd => by
  unfold bigB at hd
  obtain ⟨k, _, rfl⟩ := List.mem_map.mp hd
  exact Nat.mod_lt _ (by decide)
theorem p2n (j : Nat) : ((2 : Int) ^ j) = ((2 ^ j : Nat) : Int) := by rw [Int.natCast_pow]; rfl
theorem ev_byte {σ : L2.St} {H : Hp} {t1 t2 : TE} {x j : Nat} (h1 : Ev t1 σ H (.int (x : Int))) (h2 : Ev t2 σ H (.int (j : Int))) : Ev (tOp (rI0 fun i j => .int (Builtin.bitAnd i j)) (tOp (rI (fun _ j => 0 ≤ j) fun i j => .int (i / 2 ^ j.toNat)) t1 t2) (tC (.int 255))) σ H (.int ((x / 2 ^ j % 256 : Nat) : Int)) :=
  Ev.is (ev_I0 (Ev.is (ev_I h1 h2 (by omega)) (congrArg V.int (show (x : Int) / 2 ^ (j : Int).toNat = ((x / 2 ^ j : Nat) : Int) by rw [Int.toNat_natCast, p2n, Int.natCast_ediv]))) ev_c) (congrArg V.int (and_mask255 _))

theorem cs_get {ds : List Nat} {i : Nat} {x : V} (hx : ((cs ds).map V.int)[i]? = some x) : ∃ d, ds[i]? = some d ∧ i < ds.length ∧ x = V.int (d : Int) := by
  obtain ⟨n, hn, hi, rfl⟩ := int_at hx
  unfold cs at hn
  rw [List.getElem?_map] at hn
  cases e : ds[i]? with
  | none => rw [e] at hn; cases hn
  | some d =>
    rw [e] at hn
    exact ⟨d, rfl, (List.getElem?_eq_some_iff.mp e).1, by rw [← Option.some.inj hn]⟩

/-! ### new lists, draws on the way -/
def EvLW (s : Addr) (te : TE) (σ : L2.St) (H : Hp) (P : List V → Prop) : Prop := ∀ Q : VK, (∀ p xs H2, H p = none → Fr s H H2 → H2 p = some (.lst xs) → P xs → Q (.ref p) H2) → te σ H Q
section
variable {s : Addr} {σ : L2.St} {H : Hp} {ta tb te : TE} {D : Ends} {tz tu : TS} {P : List V → Prop}
theorem wl_cat {xs : List V} (st : StAt H s) (ha : EvL ta σ H xs) (hb : ∀ H1, Fr s H H1 → EvLW s tb σ H1 P) (hl : ∀ ys, P ys → xs.length + ys.length ≤ 100000) : EvLW s (tOp rCat ta tb) σ H (fun zs => ∃ ys, P ys ∧ zs = xs ++ ys) := fun Q k =>
  ha H (Ex.refl _) _ fun p H1 hp e1 g1 => hb H1 (Fr.ex st e1) _ fun r ys H2 hr f2 g2 hy => ⟨p, r, xs, ys, rfl, rfl, f2.l (ne_st st hp) g1, g2, sz_of (hl ys hy), fun l hl' => by
    have f02 : Fr s H H2 := (Fr.ex st e1).trans f2
    exact k l _ _ (f02.fresh hl') (f02.tex (Ex.new hl')) upd_same ⟨ys, hy, rfl⟩⟩
theorem qw_asgL {i : Nat} (h : EvLW s te σ H P) (k : ∀ p xs H1, H p = none → Fr s H H1 → H1 p = some (.lst xs) → P xs → tz D (σ.set i (some (.ref p))) H1) : tSeq (tAsg te (gName i)) tz D σ H := h _ k
theorem sw_asgL {i : Nat} (h : EvLW s te σ H P) (k : ∀ p xs H1, H p = none → Fr s H H1 → H1 p = some (.lst xs) → P xs → D.nx (σ.set i (some (.ref p))) H1) : tAsg te (gName i) D σ H := h _ k
/-- [e for j in range(n)], n drawn, e draws -/
theorem tlc_rngWW {te0 : TE} {vs : List Nat} {j : Nat} {Q : VK} {p : Int → Prop} (h : EvI s te0 σ H p) (hp : ∀ i, p i → 0 ≤ i ∧ i ≤ 100000)
    (k : ∀ n H1, p n → Fr s H H1 → ∀ Dl, H1 Dl = none → ∃ Pv : Nat → Hp → Prop, Pv 0 (upd H1 Dl (.lst [])) ∧ (∀ (i : Nat) H', i < n.toNat → Pv i H' → wipe ((wipe σ vs).set j (some (.int (i : Int)))) vs = wipe σ vs ∧ te ((wipe σ vs).set j (some (.int (i : Int)))) H' fun y H4 => ∃ acc, H4 Dl = some (.lst acc) ∧ acc.length < sizeLine ∧ Pv (i + 1) (upd H4 Dl (.lst (acc ++ [y])))) ∧ (∀ H', Pv n.toNat H' → Q (.ref Dl) H')) :
    tLc (iRng1 (tCons te0 tNil)) (gName j) tYes te vs σ H Q := h _ fun n H1 f1 hn => ⟨n, rfl, by have := hp n hn; omega, by have := hp n hn; omega, fun Dl hD => by
  obtain ⟨Pv, h0, hs, hd⟩ := k n H1 hn f1 Dl hD
  refine lc_range (lo := 0) (n := n.toNat) Pv h0 (fun i H' hi p => ?_) hd
  rw [Int.zero_add]
  exact hs i H' hi p⟩
end

theorem wl_junk {s a : Addr} {ns : List Int} {σ : L2.St} {H : Hp} {tn : TE} {E : XK} {i j : Nat} {p : Int → Prop} (hd : DrS K H s a ns) (h1 : σ[i]? = some (some (.ref s))) (h2 : σ[j]? = some (some (.ref a))) (h3 : EvI s tn σ H p) (hp : ∀ z, p z → 0 ≤ z ∧ z ≤ 1000) :
    EvLW s (tCall (sp_junk K) [] E (tCons (tVar i) (tCons (tVar j) (tCons tn tNil)))) σ H (fun xs => ∃ ds : List Nat, xs = (cs ds).map V.int ∧ ds.length ≤ 1000 ∧ p (ds.length : Int) ∧ ∀ d ∈ ds, d < 256) := fun Q q =>
  ⟨_, h1, ⟨_, h2, h3 _ fun n H1 f1 hn => by
    have hn2 := hp n hn
    exact ⟨s, a, ns, n.toNat, by rw [Int.toNat_of_nonneg hn2.1]; rfl, hd.fr f1, by omega, fun r ds H2 hr f2 g2 hl hb => q r _ H2 (f1.fresh hr) (f1.trans f2) g2 ⟨ds, rfl, by omega, by rw [hl, Int.toNat_of_nonneg hn2.1]; exact hn, hb⟩⟩⟩⟩
theorem sw_setLR {s : Addr} {σ : L2.St} {H : Hp} {te ta tb : TE} {l : Addr} {xs : List V} {j : Nat} {D : Ends} {P : V → Prop} (h : ∀ Q : VK, (∀ v H1, Fr s H H1 → P v → Q v H1) → te σ H Q) (hls : l ≠ s) (hl : H l = some (.lst xs)) (ho : ∀ H1, Ev ta σ H1 (.ref l)) (hi : ∀ H1, Ev tb σ H1 (.int (j : Int))) (hj : j < xs.length) (k : ∀ v H1, P v → Fr s H H1 → D.nx σ (upd H1 l (.lst (xs.set j v)))) : tAsg te (gSub ta tb rSetL) D σ H :=
  h _ fun v H1 f1 hv => ho H1 H1 (Ex.refl _) _ fun H2 e2 => hi H2 H2 (Ex.refl _) _ fun H3 e3 => ⟨l, xs, (j : Int), j, rfl, rfl, (e2.trans e3) l _ (f1.l hls hl), ixN_nat hj, k v H3 hv (f1.tex (e2.trans e3))⟩
theorem qw_setLR {s : Addr} {σ : L2.St} {H : Hp} {te ta tb : TE} {l : Addr} {xs : List V} {j : Nat} {D : Ends} {tz : TS} {P : V → Prop} (h : ∀ Q : VK, (∀ v H1, Fr s H H1 → P v → Q v H1) → te σ H Q) (hls : l ≠ s) (hl : H l = some (.lst xs)) (ho : ∀ H1, Ev ta σ H1 (.ref l)) (hi : ∀ H1, Ev tb σ H1 (.int (j : Int))) (hj : j < xs.length) (k : ∀ v H1, P v → Fr s H H1 → tz D σ (upd H1 l (.lst (xs.set j v)))) : tSeq (tAsg te (gSub ta tb rSetL)) tz D σ H := sw_setLR (D := { D with nx := tz D }) h hls hl ho hi hj k
/-- a list of mine may change -/
theorem Fr.upd {s l : Addr} {H1 : Hp} {o : HO} (h : StAt H1 s) (hl : l ≠ s) : StAt (upd H1 l o) s := by obtain ⟨k, c, g⟩ := h; exact ⟨k, c, by rw [upd_ne (Ne.symm hl)]; exact g⟩
theorem cs_inj {a b : List Nat} (h : cs a = cs b) : a = b := by
  unfold cs at h
  exact (List.map_inj_right fun x y e => Int.ofNat.inj e).mp h
theorem cs_eqd (a b : List Nat) : decide (cs a = cs b) = decide (a = b) := decide_eq_decide.mpr ⟨cs_inj, fun h => by rw [h]⟩
theorem cs_set (ds : List Nat) (i d : Nat) : (cs ds).set i (d : Int) = cs (ds.set i d) := by unfold cs; rw [List.map_set]

/-- the same, asked while an exception is handled -/
theorem okh_law_is_integer (T : TX K mg) : L2H.FnH P w K mg base CX0 1 T.a_law_is_integer T.d_law_is_integer ["actual"] sp_isint := by
  refine T.F_law_is_integer.okH sc_law_is_integer (fun vs H Q E h => by obtain ⟨n, rfl, _⟩ := h; rfl) (fun cdv A outer s H vs Q E p hr h => ?_)
  obtain ⟨n, rfl, k⟩ := h
  refine ⟨_, (pss_one (ps_ret (pe_and (pe_callB (r := rIsi K) call_isi (by rfl) T.m_isinstance PyProof.Rows.boot_isinstance (pa_cons (pv 0) (pa_cons (pe_bltn (v := V.ty "int") (by rfl) T.m_int PyProof.Rows.boot_int rfl) pa_nil))) (pe_one (pe_not (pe_callB (r := rIsi K) call_isi (by rfl) T.m_isinstance PyProof.Rows.boot_isinstance (pa_cons (pv 0) (pa_cons (pe_bltn (v := V.ty "bool") (by rfl) T.m_bool PyProof.Rows.boot_bool rfl) pa_nil)))))))), ?_⟩
  walk_at "ret"
  intro H2 e2
  exact ret_eq k e2 rfl
theorem ev_isintH {σ : L2.St} {H : Hp} {te : TE} {E : L2.St → XK} {n : Int} (h : Ev te σ H (.int n)) : Ev (tCallS sp_isint E (tCons te tNil)) σ H (.bl true) := fun H1 e Q q =>
  h H1 e _ fun H2 e2 => ⟨n, rfl, fun H3 e3 => q H3 (e2.trans e3)⟩

/-! ### code points and their bytes -/
def ptN (p : Nat) : Nat := if p < 128 then 1 else if p < 2048 then 2 else if p < 65536 then 3 else 4
def ptB (p : Nat) : List Nat := if p < 128 then [p] else if p < 2048 then [192 + p / 64, 128 + p % 64] else if p < 65536 then [224 + p / 4096, 128 + p / 64 % 64, 128 + p % 64] else [240 + p / 262144, 128 + p / 4096 % 64, 128 + p / 64 % 64, 128 + p % 64]
theorem ptB_len (p : Nat) : (ptB p).length = ptN p := by unfold ptB ptN; split; rfl; split; rfl; split <;> rfl
theorem ptN_bd (p : Nat) : 1 ≤ ptN p ∧ ptN p ≤ 4 := by unfold ptN; split; omega; split; omega; split <;> omega
theorem ptB_lt {p : Nat} (h : p < 2097152) : ∀ d ∈ ptB p, d < 256 := fun d hd => by
  unfold ptB at hd
  split at hd
  · rw [List.mem_singleton.mp hd]; omega
  split at hd
  · rcases List.mem_cons.mp hd with rfl | hd
    · omega
    · rw [List.mem_singleton.mp hd]; omega
  split at hd
  · rcases List.mem_cons.mp hd with rfl | hd
    · omega
    rcases List.mem_cons.mp hd with rfl | hd
    · omega
    · rw [List.mem_singleton.mp hd]; omega
  · rcases List.mem_cons.mp hd with rfl | hd
    · omega
    rcases List.mem_cons.mp hd with rfl | hd
    · omega
    rcases List.mem_cons.mp hd with rfl | hd
    · omega
    · rw [List.mem_singleton.mp hd]; omega
def sp_pcount : Sp := fun vs H Q _ => ∃ p : Nat, vs = [.int (p : Int)] ∧ RetV (.int (ptN p : Int)) H Q
theorem ok_point_count (T : TX K mg) : FnOk P w K mg base CX0 1 T.a_point_count T.d_point_count ["point"] sp_pcount := by
  refine T.F_point_count.ok sc_point_count (fun vs H Q E h => by obtain ⟨p, rfl, _⟩ := h; rfl) (fun cdv A outer s0 H vs Q E hr h => ?_)
  obtain ⟨p, rfl, k⟩ := h
  refine ⟨_, (pss_cons (ps_if (pt_cmpR op_lt (pv 0) pe_int (nomark _)) (pss_one (ps_ret pe_int)) pss_nil)
      (pss_cons (ps_if (pt_cmpR op_lt (pv 0) pe_int (nomark _)) (pss_one (ps_ret pe_int)) pss_nil)
      (pss_cons (ps_if (pt_cmpR op_lt (pv 0) pe_int (nomark _)) (pss_one (ps_ret pe_int)) pss_nil)
      (pss_one (ps_ret pe_int))))), ?_⟩
  unfold ptN at k
  refine q_when (b := decide (p < 128)) (et_is (et_test (ev_I0 (ev_var rfl) ev_c)) (decide_eq_decide.mpr (by omega))) (fun h H1 e1 => ?_) (fun h H1 e1 => ?_)
  · rw [if_pos (of_decide_eq_true h)] at k
    exact s_ret ev_c fun H2 e2 => k.go (e1.trans e2)
  rw [if_neg (of_decide_eq_false h)] at k
  refine q_when (b := decide (p < 2048)) (et_is (et_test (ev_I0 (ev_var rfl) ev_c)) (decide_eq_decide.mpr (by omega))) (fun h H2 e2 => ?_) (fun h H2 e2 => ?_)
  · rw [if_pos (of_decide_eq_true h)] at k
    exact s_ret ev_c fun H3 e3 => k.go (e1.trans (e2.trans e3))
  rw [if_neg (of_decide_eq_false h)] at k
  refine q_when (b := decide (p < 65536)) (et_is (et_test (ev_I0 (ev_var rfl) ev_c)) (decide_eq_decide.mpr (by omega))) (fun h H3 e3 => ?_) (fun h H3 e3 => ?_)
  · rw [if_pos (of_decide_eq_true h)] at k
    exact s_ret ev_c fun H4 e4 => k.go (e1.trans (e2.trans (e3.trans e4)))
  rw [if_neg (of_decide_eq_false h)] at k
  exact s_ret ev_c fun H4 e4 => k.go (e1.trans (e2.trans (e3.trans e4)))
theorem ev_pcount {σ : L2.St} {H : Hp} {te : TE} {E : XK} {p : Nat} (h : Ev te σ H (.int (p : Int))) : Ev (tCall sp_pcount [] E (tCons te tNil)) σ H (.int (ptN p : Int)) := ev_call (ea_cons h ea_nil) fun H1 _ Q q _ => ⟨p, rfl, q⟩
def leastN (c : Nat) : Nat := 256 - 256 / 2 ^ c
def sp_least : Sp := fun vs H Q _ => ∃ c : Nat, vs = [.int (c : Int)] ∧ RetV (.int (leastN c : Int)) H Q
theorem ok_least_first (T : TX K mg) : FnOk P w K mg base CX0 1 T.a_least_first T.d_least_first ["count"] sp_least := by
  refine T.F_least_first.ok sc_least_first (fun vs H Q E h => by obtain ⟨c, rfl, _⟩ := h; rfl) (fun cdv A outer s0 H vs Q E hr h => ?_)
  obtain ⟨c, rfl, k⟩ := h
  refine ⟨_, (pss_one (ps_ret (pe_op op_sub pe_int (pe_op op_shr pe_int (pv 0))))), ?_⟩
  refine s_ret (v := .int (leastN c : Int)) (Ev.is (ev_I0 ev_c (ev_I ev_c (ev_var rfl) (by show (0 : Int) ≤ _; omega))) (congrArg V.int ?_)) k
  rw [Int.toNat_natCast, p2n]
  have h1 : (256 : Int) / ((2 ^ c : Nat) : Int) = ((256 / 2 ^ c : Nat) : Int) := by rw [Int.natCast_ediv]; rfl
  have h2 : 256 / 2 ^ c ≤ 256 := Nat.div_le_self _ _
  unfold leastN
  omega
theorem ev_least {σ : L2.St} {H : Hp} {te : TE} {E : XK} {c : Nat} (h : Ev te σ H (.int (c : Int))) : Ev (tCall sp_least [] E (tCons te tNil)) σ H (.int (leastN c : Int)) := ev_call (ea_cons h ea_nil) fun H1 _ Q q _ => ⟨c, rfl, q⟩
theorem and_mask63 (x : Nat) : Builtin.bitAnd (x : Int) 63 = ((x % 64 : Nat) : Int) := by
  have h := _root_.Bits.bitAnd_mask (x := (x : Int)) 6 (by omega)
  have e : (2 : Int) ^ 6 - 1 = 63 := rfl
  rw [e] at h
  rw [h]
  have e2 : (2 : Int) ^ 6 = 64 := rfl
  rw [e2]
  omega
theorem ev_shrN {σ : L2.St} {H : Hp} {t1 t2 : TE} {x j : Nat} (h1 : Ev t1 σ H (.int (x : Int))) (h2 : Ev t2 σ H (.int (j : Int))) : Ev (tOp (rI (fun _ j => 0 ≤ j) fun i j => .int (i / 2 ^ j.toNat)) t1 t2) σ H (.int ((x / 2 ^ j : Nat) : Int)) :=
  Ev.is (ev_I h1 h2 (by omega)) (congrArg V.int (show (x : Int) / 2 ^ (j : Int).toNat = ((x / 2 ^ j : Nat) : Int) by rw [Int.toNat_natCast, p2n, Int.natCast_ediv]))
theorem ev_and63 {σ : L2.St} {H : Hp} {te : TE} {x : Nat} (h : Ev te σ H (.int (x : Int))) : Ev (tOp (rI0 fun i j => .int (Builtin.bitAnd i j)) te (tC (.int 63))) σ H (.int ((x % 64 : Nat) : Int)) := Ev.is (ev_I0 h ev_c) (congrArg V.int (and_mask63 x))

/-! ### reading what was written -/
def cntG (d : Nat) : Nat → Nat
  | 0 => 0
  | k + 1 => if leastN (4 - k) ≤ d ∧ d < leastN (4 - k + 1) then 4 - k else cntG d k
def cntT (d : Nat) : Nat := if d < 128 then 1 else cntG d 3
/-- for x in (a, b, ..), the tuple made on the way -/
theorem q_forNTn {σ : L2.St} {H : Hp} {D : Ends} {tu tz : TS} {xs : List V} {tl : TE} {j : Nat} (h : EvU tl σ H xs) (Pv : Addr → Nat → L2.St → Hp → Prop) (h0 : ∀ p H1, H p = none → Ex H H1 → H1 p = some (.tup xs) → Pv p 0 σ H1) (hl : ∀ p i σ' H', i ≤ xs.length → Pv p i σ' H' → SqT K H' p xs)
    (hs : ∀ p i x σ' H', xs[i]? = some x → Pv p i σ' H' → tu { D with nx := Pv p (i + 1), ct := Pv p (i + 1), bk := tz D } (σ'.set j (some x)) H') (hd : ∀ p σ' H', Pv p xs.length σ' H' → tz D σ' H') : tSeq (tFor (iTup K tl) (gName j) tu) tz D σ H :=
  h H (Ex.refl H) _ fun p H1 hp e h1 => ⟨p, rfl, ⟨xs, st_of h1⟩, for_tup (D := { D with nx := tz D }) (Pv p) (h0 p H1 hp e h1) (hl p) (hs p) (hd p)⟩
def sp_told : Sp := fun vs H Q _ => ∃ d : Nat, vs = [.int (d : Int)] ∧ RetV (.int (cntT d : Int)) H Q
theorem ok_count_told (T : TX K mg) : FnOk P w K mg base CX0 2 T.a_count_told T.d_count_told ["first"] sp_told := by
  refine T.F_count_told.ok sc_count_told (fun vs H Q E h => by obtain ⟨d, rfl, _⟩ := h; rfl) (fun cdv A outer s0 H vs Q E hr h => ?_)
  obtain ⟨d, rfl, k⟩ := h
  refine ⟨_, (pss_cons (ps_if (pt_cmpR op_lt (pv 0) pe_int (nomark _)) (pss_one (ps_ret pe_int)) pss_nil)
      (pss_cons (ps_for PassesOwn.never rfl (pi_tup (pe_tup (pa_cons pe_int (pa_cons pe_int (pa_cons pe_int pa_nil))))) (pg_name (i := 1) sc_count_told.nd rfl (Or.inl rfl)) (pss_one (ps_if (pt_chain op_le op_lt (pe_call (ok_least_first T) (hr.mono (by decide)) (by rfl) T.g_least_first T.F_least_first.kp T.b_least_first .nil pass0 (pa_cons (pv 1) pa_nil)) (pv 0) (pe_call (ok_least_first T) (hr.mono (by decide)) (by rfl) T.g_least_first T.F_least_first.kp T.b_least_first .nil pass0 (pa_cons (pe_op op_add (pv 1) pe_int) pa_nil))) (pss_one (ps_ret (pv 1))) pss_nil)))
      (pss_one (ps_ret pe_int)))), ?_⟩
  unfold cntT at k
  refine q_when (b := decide (d < 128)) (et_is (et_test (ev_I0 (ev_var rfl) ev_c)) (decide_eq_decide.mpr (by omega))) (fun h H1 e1 => ?_) (fun h H1 e1 => ?_)
  · rw [if_pos (of_decide_eq_true h)] at k
    exact s_ret ev_c fun H2 e2 => k.go (e1.trans e2)
  rw [if_neg (of_decide_eq_false h)] at k
  refine q_forNTn (K := K) (xs := [.int 2, .int 3, .int 4]) (eu_tup (ea_cons ev_c (ea_cons ev_c (ea_cons ev_c ea_nil))) (by decide)) (fun p i σ' H' => ∃ z, σ' = [some (.int (d : Int)), z] ∧ Ex H H' ∧ H' p = some (.tup [.int 2, .int 3, .int 4]) ∧ cntG d 3 = cntG d (3 - i)) (fun p H2 hp e2 g2 => ⟨none, rfl, e1.trans e2, g2, rfl⟩) (fun p i σ' H' _ h => by obtain ⟨_, _, _, g, _⟩ := h; exact st_of g) ?_ ?_
  · rintro p i x σ' H2 hx ⟨z, rfl, ex, g, hc⟩
    have hi : i < 3 ∧ x = .int ((2 + i : Nat) : Int) := by
      match i, hx with
      | 0, hx => exact ⟨by decide, (Option.some.inj hx).symm⟩
      | 1, hx => exact ⟨by decide, (Option.some.inj hx).symm⟩
      | 2, hx => exact ⟨by decide, (Option.some.inj hx).symm⟩
      | i + 3, hx => simp at hx
    obtain ⟨hi, rfl⟩ := hi
    have hst : cntG d (3 - i) = if leastN (2 + i) ≤ d ∧ d < leastN (2 + i + 1) then 2 + i else cntG d (3 - (i + 1)) := by
      rw [show 3 - i = (2 - i) + 1 by omega]
      show (if leastN (4 - (2 - i)) ≤ d ∧ d < leastN (4 - (2 - i) + 1) then 4 - (2 - i) else cntG d (2 - i)) = _
      rw [show 4 - (2 - i) = 2 + i by omega, show 2 - i = 3 - (i + 1) by omega]
    refine s_when (b := decide (leastN (2 + i) ≤ d ∧ d < leastN (2 + i + 1))) (et_is (et_test (ev_chain (ev_least (ev_var rfl)) (ev_var rfl) (ev_least (c := 2 + i + 1) (Ev.is (ev_I0 (ev_var rfl) ev_c) (congrArg V.int (by omega)))))) ?_) (fun h H3 e3 => ?_) (fun h H3 e3 => ?_)
    · rw [Bool.eq_iff_iff, Bool.and_eq_true, decide_eq_true_iff, decide_eq_true_iff, decide_eq_true_iff]
      omega
    · rw [hc, hst, if_pos (of_decide_eq_true h)] at k
      exact s_ret (ev_var rfl) fun H4 e4 => k.go (ex.trans (e3.trans e4))
    · exact ⟨_, rfl, ex.trans e3, e3 _ _ g, by rw [hc, hst, if_neg (of_decide_eq_false h)]⟩
  · rintro p σ' H2 ⟨z, rfl, ex, g, hc⟩
    have hc : cntG d 3 = 0 := hc
    rw [hc] at k
    exact s_ret ev_c fun H3 e3 => k.go (ex.trans e3)
theorem ev_told {σ : L2.St} {H : Hp} {te : TE} {E : XK} {d : Nat} (h : Ev te σ H (.int (d : Int))) : Ev (tCall sp_told [] E (tCons te tNil)) σ H (.int (cntT d : Int)) := ev_call (ea_cons h ea_nil) fun H1 _ Q q _ => ⟨d, rfl, q⟩

theorem wl_catR {s l : Addr} {σ : L2.St} {H : Hp} {ta tb : TE} {P : List V → Prop} {xs : List V} (st : StAt H s) (ha : Ev ta σ H (.ref l)) (hls : l ≠ s) (hx : H l = some (.lst xs)) (hb : ∀ H1, Fr s H H1 → EvLW s tb σ H1 P) (hl : ∀ ys, P ys → xs.length + ys.length ≤ 100000) : EvLW s (tOp rCat ta tb) σ H (fun zs => ∃ ys, P ys ∧ zs = xs ++ ys) := fun Q k =>
  ha H (Ex.refl _) _ fun H1 e1 => hb H1 (Fr.ex st e1) _ fun r ys H2 hr f2 g2 hy => ⟨l, r, xs, ys, rfl, rfl, f2.l hls (e1 _ _ hx), g2, sz_of (hl ys hy), fun q hq => by
    have f02 : Fr s H H2 := (Fr.ex st e1).trans f2
    exact k q _ _ (f02.fresh hq) (f02.tex (Ex.new hq)) upd_same ⟨ys, hy, rfl⟩⟩
theorem wl_rep {s : Addr} {σ : L2.St} {H : Hp} {ta tb : TE} {x : V} {p : Int → Prop} (st : StAt H s) (ha : EvL ta σ H [x]) (hb : ∀ H1, Fr s H H1 → EvI s tb σ H1 p) (hp : ∀ z, p z → 0 ≤ z ∧ z ≤ 1000) : EvLW s (tOp rRep ta tb) σ H (fun ys => ∃ n : Nat, p (n : Int) ∧ n ≤ 1000 ∧ ys = List.replicate n x) := fun Q k =>
  ha H (Ex.refl _) _ fun q H1 hq e1 g1 => hb H1 (Fr.ex st e1) _ fun i H2 f2 hi => ⟨q, i, [x], rfl, rfl, f2.l (ne_st st hq) g1, by have := hp i hi; omega, by have := hp i hi; omega, sz_of (by have := hp i hi; show 1 * i.toNat ≤ 100000; omega), fun l hl => by
    have h2 := hp i hi
    have f02 : Fr s H H2 := (Fr.ex st e1).trans f2
    exact k l _ _ (f02.fresh hl) (f02.tex (Ex.new hl)) upd_same ⟨i.toNat, by rw [Int.toNat_of_nonneg h2.1]; exact hi, by omega, rep_one _⟩⟩
theorem cs_rep (n x : Nat) : List.replicate n (V.int (x : Int)) = (cs (List.replicate n x)).map V.int := by
  unfold cs
  rw [List.map_replicate, List.map_replicate]
/-- xs[e], xs a list of numbers that stands there, e drawn -/
theorem wi_ixL {s : Addr} {σ : L2.St} {H : Hp} {ta tb : TE} {xs : List Nat} {q : Int → Prop} (st : StAt H s) (ha : EvL ta σ H ((cs xs).map V.int)) (hb : ∀ H1, Fr s H H1 → EvI s tb σ H1 q) (hq : ∀ z, q z → ∃ j : Nat, z = (j : Int) ∧ j < xs.length) : EvI s (tOp (rIxL K) ta tb) σ H (fun z => ∃ x : Nat, z = (x : Int) ∧ x ∈ xs) := fun Q k =>
  ha H (Ex.refl _) _ fun p H1 hp e1 g1 => hb H1 (Fr.ex st e1) _ fun i H2 f2 hi => by
    obtain ⟨j, rfl, hj⟩ := hq i hi
    have hx : xs[j]? = some xs[j] := List.getElem?_eq_getElem hj
    exact ⟨p, _, (j : Int), .int ((xs[j] : Nat) : Int), rfl, rfl, sq_of (f2.l (ne_st st hp) g1), at_of (j := j) rfl (at_int (cs_at hx)), k _ H2 ((Fr.ex st e1).trans f2) ⟨xs[j], rfl, List.mem_of_getElem? hx⟩⟩

/-! ### reading text that may be wrong -/
theorem cntT_eq (d : Nat) : cntT d = if d < 128 then 1 else if 192 ≤ d ∧ d < 224 then 2 else if 224 ≤ d ∧ d < 240 then 3 else if 240 ≤ d ∧ d < 248 then 4 else 0 := rfl
theorem cntT_le (d : Nat) : cntT d ≤ 4 := by rw [cntT_eq]; split; omega; split; omega; split; omega; split <;> omega
def headV (d n : Nat) : Nat := d - leastN n
theorem headV_lt {d n : Nat} (h : n = cntT d) (hd : d < 256) (hn : 2 ≤ n) : leastN n ≤ d ∧ headV d n < 64 := by
  have l2 : leastN 2 = 192 := rfl
  have l3 : leastN 3 = 224 := rfl
  have l4 : leastN 4 = 240 := rfl
  rw [cntT_eq] at h
  unfold headV
  split at h
  · omega
  split at h
  · subst h; omega
  split at h
  · subst h; omega
  split at h
  · subst h; omega
  omega
def foldP (h : Nat) (xs : List Nat) : Nat := xs.foldl (fun a b => a * 64 + (b - 128)) h
theorem foldP_snoc (h : Nat) (xs : List Nat) (b : Nat) : foldP h (xs ++ [b]) = foldP h xs * 64 + (b - 128) := by unfold foldP; rw [List.foldl_append]; rfl
def okB (b : Nat) : Bool := decide (128 ≤ b) && decide (b < 192)
theorem foldP_ltB : ∀ (xs : List Nat) (h B : Nat), h < B → (∀ b ∈ xs, okB b = true) → foldP h xs < B * 64 ^ xs.length
  | [], h, B, hh, _ => by rw [List.length_nil, Nat.pow_zero, Nat.mul_one]; exact hh
  | b :: xs, h, B, hh, hb => by
    have h2 := hb b (List.mem_cons_self ..)
    unfold okB at h2
    rw [Bool.and_eq_true, decide_eq_true_iff, decide_eq_true_iff] at h2
    have := foldP_ltB xs (h * 64 + (b - 128)) (B * 64) (by omega) fun x hx => hb x (List.mem_cons_of_mem _ hx)
    have e : B * 64 * 64 ^ xs.length = B * (64 ^ xs.length * 64) := by rw [Nat.mul_assoc, Nat.mul_comm 64]
    rw [e] at this
    rw [List.length_cons, Nat.pow_succ]
    exact this
theorem foldP_lt {h : Nat} (hh : h < 64) (xs : List Nat) (hb : ∀ b ∈ xs, okB b = true) : foldP h xs < 64 ^ (xs.length + 1) := by
  have := foldP_ltB xs h 64 hh hb
  rwa [Nat.mul_comm, ← Nat.pow_succ] at this
def minN (n : Nat) : Nat := if n = 2 then 128 else if n = 3 then 2048 else 65536
def badP (n p : Nat) : Bool := decide (p < minN n) || (decide (1114111 < p) || (decide (55296 ≤ p) && decide (p < 57344)))
theorem ptN_min {n p : Nat} (h2 : 2 ≤ n) (h4 : n ≤ 4) : decide (ptN p < n) = decide (p < minN n) := by
  rw [decide_eq_decide]
  have e2 : minN 2 = 128 := rfl
  have e3 : minN 3 = 2048 := rfl
  have e4 : minN 4 = 65536 := rfl
  unfold ptN
  have : n = 2 ∨ n = 3 ∨ n = 4 := by omega
  rcases this with rfl | rfl | rfl
  · rw [e2]; split; omega; split; omega; split <;> omega
  · rw [e3]; split; omega; split; omega; split <;> omega
  · rw [e4]; split; omega; split; omega; split <;> omega
def seqP (d n : Nat) (xs : List Nat) : Option Nat := if n = 1 then some d else if xs.all okB then (if badP n (foldP (headV d n) xs) then none else some (foldP (headV d n) xs)) else none
def seqF (ds : List Nat) (at_ stop : Nat) : Option (Nat × Nat) := if cntT (ds.getD at_ 0) = 0 ∨ stop < at_ + cntT (ds.getD at_ 0) then none else (seqP (ds.getD at_ 0) (cntT (ds.getD at_ 0)) ((ds.drop (at_ + 1)).take (cntT (ds.getD at_ 0) - 1))).map fun p => (p, cntT (ds.getD at_ 0))
theorem or_join64 {a b : Nat} (h : b < 64) : Builtin.bitOr ((a : Int) * 2 ^ (6 : Int).toNat) ((b : Nat) : Int) = ((a * 64 + b : Nat) : Int) := by
  have h := _root_.Bits.bitOr_join' (a := ((b : Nat) : Int)) (b := ((a : Nat) : Int)) (k := 6) (by omega) (by show _ < ((2 : Int) ^ 6); have e : ((2 : Int) ^ 6) = 64 := rfl; omega) (by omega)
  have e : (6 : Int).toNat = 6 := rfl
  rw [e, h]
  have e2 : ((2 : Int) ^ 6) = 64 := rfl
  omega
def RdErr (E : XK) (C : Addr) (nm : Str) (n : Nat) (H : Hp) : Prop := ∀ H' dd, Ex H H' → ErrD H' dd nm (n : Int) → E (.ref C) (some dd) H'
def sp_rpx (K : PySem.W.Frag) (CI : Addr) : Sp := fun vs H Q E => ∃ (a : Addr) (ds : List Nat) (pl d n : Nat), vs = [.ref a, .int (pl : Int), .int (n : Int)] ∧ SqL K H a ((cs ds).map V.int) ∧ ds.length ≤ 100000 ∧ ds[pl]? = some d ∧ d < 256 ∧ n = cntT d ∧ 1 ≤ n ∧ pl + n ≤ ds.length ∧ (∀ p, seqP d n ((ds.drop (pl + 1)).take (n - 1)) = some p → RetV (.int (p : Int)) H Q) ∧ (seqP d n ((ds.drop (pl + 1)).take (n - 1)) = none → RdErr E CI "InvalidText" pl H)
theorem ok_read_point (T : TX K mg) : FnOk P w K mg base (L2N.CX P w) 3 T.a_read_point T.d_read_point ["data", "place", "count"] (sp_rpx K T.C_InvalidText) := by
  refine T.F_read_point.okN sc_read_point (fun vs H Q E h => by obtain ⟨a, ds, pl, d, n, rfl, _⟩ := h; rfl) (fun cdv A outer s0 H vs Q E hr h => ?_)
  obtain ⟨a, ds, pl, d, n, rfl, hS, hdl, hd, hd256, hn, hn1, hfit, k, kE⟩ := h
  refine ⟨_, (pss_cons (ps_if (pt_cmpR op_eq (pv 2) pe_int (nomark _)) (pss_one (ps_ret (pe_ix (r := rIxL K) ix_list (pv 0) (pv 1) (fun _ _ => rfl)))) pss_nil)
      (pss_cons (ps_set (i := 3) sc_read_point.nd rfl (Or.inl rfl) (pe_op op_sub (pe_ix (r := rIxL K) ix_list (pv 0) (pv 1) (fun _ _ => rfl)) (pe_call (ok_least_first T) (hr.mono (by decide)) (by rfl) T.g_least_first T.F_least_first.kp T.b_least_first .nil pass0 (pa_cons (pv 2) pa_nil))))
      (pss_cons (ps_for (passes_of rfl) rfl (pi_list (pe_slice (r := rSlL K) sl_list (pv 0) (po_some (pe_op op_add (pv 1) pe_int)) (po_some (pe_op op_add (pv 1) (pv 2))))) (pg_name (i := 4) sc_read_point.nd rfl (Or.inl rfl)) (pss_cons (ps_if (PW.pt (pw_or (pt_cmpR op_lt (pv 4) pe_int (nomark _)) (pw_or1 (pt_cmpR op_gt (pv 4) pe_int (nomark _))))) (pss_one (L2N.ps_raise rfl (L2N.takes_of rfl rfl rfl rfl) (pmkN_oex T.x_InvalidText.ox T.x_InvalidText.iC T.ti_MonochordError_init (ok_MonochordError_init T) (hr.mono (by decide)) T.b_MonochordError_init .nil pass0 (by rfl) T.g_InvalidText (pa_cons (pv 1) pa_nil)))) pss_nil)
        (pss_one (ps_set (i := 3) sc_read_point.nd rfl (Or.inl rfl) (pe_op op_or (pe_op op_shl (pv 3) pe_int) (pe_op op_sub (pv 4) pe_int))))))
      (pss_cons (ps_if (PW.pt (pw_or (pt_cmpR op_gt (pv 3) pe_int (nomark _)) (pw_or (pt_chain op_le op_le pe_int (pv 3) pe_int) (pw_or1 (pt_cmpR op_lt (pe_call (ok_point_count T) (hr.mono (by decide)) (by rfl) T.g_point_count T.F_point_count.kp T.b_point_count .nil pass0 (pa_cons (pv 3) pa_nil)) (pv 2) (nomark _)))))) (pss_one (L2N.ps_raise rfl (L2N.takes_of rfl rfl rfl rfl) (pmkN_oex T.x_InvalidText.ox T.x_InvalidText.iC T.ti_MonochordError_init (ok_MonochordError_init T) (hr.mono (by decide)) T.b_MonochordError_init .nil pass0 (by rfl) T.g_InvalidText (pa_cons (pv 1) pa_nil)))) pss_nil)
      (pss_one (ps_ret (pv 3))))))), ?_⟩
  have hn4 : n ≤ 4 := by rw [hn]; exact cntT_le d
  have byte : ∀ {σ : L2.St} {H' : Hp}, σ[0]? = some (some (.ref a)) → σ[1]? = some (some (.int (pl : Int))) → Ex H H' → Ev (tOp (rIxL K) (tVar 0) (tVar 1)) σ H' (.int (d : Int)) := fun h1 h2 e => ev_ixS (i := 0) (n := (pl : Int)) (Ev.s (ev_var h1) (ex_l e hS)) (ev_var h2) (at_of (j := pl) rfl (at_int (cs_at hd)))
  obtain ⟨xs, hxs⟩ : ∃ xs, (ds.drop (pl + 1)).take (n - 1) = xs := ⟨_, rfl⟩
  rw [hxs] at k kE
  have hxl : xs.length = n - 1 := by rw [← hxs, List.length_take, List.length_drop]; omega
  unfold seqP at k kE
  refine q_when (b := decide (n = 1)) (et_is (et_test (ev_eq (ev_var rfl) ev_c rfl)) (by rw [decide_eq_decide]; exact ⟨fun h => by have := V.int.inj h; omega, fun h => by rw [h]; rfl⟩)) (fun h H1 e1 => ?_) (fun h H1 e1 => ?_)
  · rw [if_pos (of_decide_eq_true h)] at k
    exact s_ret (byte rfl rfl e1) fun H2 e2 => k d rfl H2 (e1.trans e2)
  have h : ¬ n = 1 := of_decide_eq_false h
  rw [if_neg h] at k kE
  obtain ⟨hld, hh64⟩ := headV_lt hn hd256 (by omega)
  refine q_asg (v := .int ((headV d n : Nat) : Int)) (Ev.is (ev_I0 (byte rfl rfl e1) (ev_least (ev_var rfl))) (congrArg V.int (by unfold headV; omega))) fun H2 e2 => ?_
  have e12 := e1.trans e2
  refine q_forNLn (K := K) (xs := (cs xs).map V.int) (EvL.is (el_mid (i := pl + 1) (j := pl + n) (Ev.s (ev_var rfl) (ex_l e12 hS)) (Ev.is (ev_I0 (ev_var rfl) ev_c) (congrArg V.int (by omega))) (Ev.is (ev_I0 (ev_var rfl) (ev_var rfl)) (congrArg V.int (by omega)))) (by rw [show pl + n - (pl + 1) = n - 1 by omega, cs_drop, cs_take, hxs])) (fun q i σ' H' => ∃ z, σ' = [some (.ref a), some (.int (pl : Int)), some (.int (n : Int)), some (.int ((foldP (headV d n) (xs.take i) : Nat) : Int)), z] ∧ Ex H H' ∧ H' q = some (.lst ((cs xs).map V.int)) ∧ ∀ b ∈ xs.take i, okB b = true) (fun q H3 hq e3 g3 => ⟨none, rfl, e12.trans e3, g3, fun b hb => by cases hb⟩) (fun q i σ' H' _ h => by obtain ⟨_, _, _, g, _⟩ := h; exact sq_of g) ?_ ?_
  · rintro q i x σ' H3 hx ⟨z, rfl, ex, gq, hokb⟩
    obtain ⟨b, hb, hi, rfl⟩ := cs_get hx
    have hlt := foldP_lt hh64 (xs.take i) hokb
    have hpw : 64 ^ ((xs.take i).length + 1) ≤ 64 ^ 4 := Nat.pow_le_pow_right (by decide) (by rw [List.length_take]; omega)
    have e644 : (64 : Nat) ^ 4 = 16777216 := rfl
    refine q_when (b := !okB b) (et_is (et_or (a := decide (b < 128)) (b := decide (191 < b)) (et_is (et_test (ev_I0 (ev_var rfl) ev_c)) (decide_eq_decide.mpr (by omega))) fun _ => et_is (et_test (ev_I0 (ev_var rfl) ev_c)) (decide_eq_decide.mpr (by omega))) (by
      unfold okB
      rw [Bool.eq_iff_iff, Bool.or_eq_true, decide_eq_true_iff, decide_eq_true_iff, Bool.not_eq_true', Bool.and_eq_false_iff, decide_eq_false_iff_not, decide_eq_false_iff_not]
      omega)) (fun hf H4 e4 => ?_) fun hf H4 e4 => ?_
    · have hf : okB b = false := by rwa [Bool.not_eq_true'] at hf
      refine mk_err T.x_InvalidText (ea_cons (ev_var rfl) ea_nil) fun H5 dd hdd e5 he => kE ?_ H5 dd (ex.trans (e4.trans e5)) he
      rw [if_neg (fun h => by rw [List.all_eq_true.mp h b (List.mem_of_getElem? hb)] at hf; cases hf)]
    have hf : okB b = true := by rwa [Bool.not_eq_false'] at hf
    have hf2 := hf
    unfold okB at hf2
    rw [Bool.and_eq_true, decide_eq_true_iff, decide_eq_true_iff] at hf2
    have htk : xs.take (i + 1) = xs.take i ++ [b] := by rw [List.take_add_one, hb]; rfl
    refine s_asg (v := .int ((foldP (headV d n) (xs.take (i + 1)) : Nat) : Int)) (Ev.is (ev_I0 (ev_I (ev_var rfl) ev_c (show CPow ((foldP (headV d n) (xs.take i) : Nat) : Int) 6 from ⟨by decide, by decide, by omega⟩)) (Ev.is (ev_I0 (ev_var rfl) ev_c) (congrArg V.int (show _ = ((b - 128 : Nat) : Int) by omega)))) (congrArg V.int (by rw [htk, foldP_snoc]; exact or_join64 (by omega)))) fun H5 e5 => ⟨_, rfl, ex.trans (e4.trans e5), (e4.trans e5) _ _ gq, fun y hy => ?_⟩
    rw [htk] at hy
    rcases List.mem_append.mp hy with h | h
    · exact hokb y h
    · rw [List.mem_singleton.mp h]
      exact hf
  · rintro q σ' H3 ⟨z, rfl, ex, gq, hokb⟩
    rw [List.length_map, cs_len, List.take_length] at hokb
    rw [List.length_map, cs_len, List.take_length]
    rw [if_pos (List.all_eq_true.mpr hokb)] at k kE
    generalize foldP (headV d n) xs = p at *
    refine q_when (b := badP n p) (et_is (et_or (a := decide (1114111 < p)) (b := (decide (55296 ≤ p) && decide (p < 57344)) || decide (p < minN n)) (et_is (et_test (ev_I0 (ev_var rfl) ev_c)) (decide_eq_decide.mpr (by omega))) fun _ => et_or (a := decide (55296 ≤ p) && decide (p < 57344)) (b := decide (p < minN n)) (et_is (et_test (ev_chain ev_c (ev_var rfl) ev_c)) ?_) fun _ => et_is (et_test (ev_I0 (ev_pcount (ev_var rfl)) (ev_var rfl))) (by rw [← ptN_min (by omega) hn4, decide_eq_decide]; omega)) (by unfold badP; cases decide (p < minN n) <;> cases decide (1114111 < p) <;> cases (decide (55296 ≤ p) && decide (p < 57344)) <;> rfl)) (fun hb H4 e4 => ?_) fun hb H4 e4 => ?_
    · rw [Bool.eq_iff_iff, Bool.and_eq_true, Bool.and_eq_true, decide_eq_true_iff, decide_eq_true_iff, decide_eq_true_iff, decide_eq_true_iff]
      omega
    · exact mk_err T.x_InvalidText (ea_cons (ev_var rfl) ea_nil) fun H5 dd hdd e5 he => kE (by rw [if_pos hb]) H5 dd (ex.trans (e4.trans e5)) he
    · exact s_ret (ev_var rfl) fun H5 e5 => k p (by rw [if_neg (by rw [hb]; decide)]) H5 (ex.trans (e4.trans e5))
def errT (n : Nat) : PyData := .tuple [.str "error", .bool true, .int (n : Int)]
def textD (tx : List Nat) : PyData := .tuple [.str "text", .list ((cs tx).map PyData.int)]
def outR (ds : List Nat) (stop : Nat) : Nat → Nat → List Nat → PyData
  | 0, _, tx => textD tx
  | f + 1, at_, tx => if at_ < stop then (match seqF ds at_ stop with | none => errT at_ | some (p, n) => outR ds stop f (at_ + n) (tx ++ [p])) else textD tx
theorem outR_end {ds : List Nat} {stop at_ : Nat} {tx : List Nat} (h : stop ≤ at_) : ∀ f, outR ds stop f at_ tx = textD tx
  | 0 => rfl
  | f + 1 => by unfold outR; rw [if_neg (by omega)]
theorem outR_shaped {ds : List Nat} {stop : Nat} : ∀ f at_ tx, SeqAt.shaped (outR ds stop f at_ tx) = true := by
  have ht : ∀ tx, SeqAt.shaped (textD tx) = true := fun tx => by
    unfold SeqAt.shaped textD
    have h1 := canLay_ints (cs tx)
    have h2 := depth_ints (cs tx)
    rw [Bool.and_eq_true, decide_eq_true_iff]
    refine ⟨by simp only [PyData.canLay0, PyData.canLayAll0, h1]; decide +kernel, ?_⟩
    simp only [PyData.depth, PyData.depthAll]
    omega
  intro f
  induction f with
  | zero => exact fun at_ tx => ht tx
  | succ f ih =>
    intro at_ tx
    unfold outR
    split
    · split
      · unfold SeqAt.shaped errT
        rw [Bool.and_eq_true, decide_eq_true_iff]
        exact ⟨by simp only [PyData.canLay0, PyData.canLayAll0]; decide +kernel, by simp only [PyData.depth, PyData.depthAll]; omega⟩
      · exact ih _ _
    · exact ht tx
def outT (ds : List Nat) (st stop : Nat) : PyData := outR ds stop (stop - st) st []
theorem q_appX {σ : L2.St} {H : Hp} {l : Addr} {xs : List V} {sp : Sp} {dvs args : List V} {E : L2.St → XK} {ta : TA} {tl : TE} {D : Ends} {tz : TS} (hl : H l = some (.lst xs)) (ha : Ev tl σ H (.ref l)) (h : EvA ta σ H args) (k : ∀ H1, Ex H H1 → sp (args ++ dvs) H1 (fun x H2 => rAppend (.ref l) [x] H2 fun _ H3 => tz D σ H3) (E σ)) : tSeq (tDrop (tBM K "list" rAppend tl (tCons (tCallX sp dvs E ta) tNil))) tz D σ H :=
  ha H (Ex.refl _) _ fun H1 e1 => ⟨.inl ⟨rfl, xs, sq_of (e1 _ _ hl)⟩, h H1 e1 _ fun H2 e2 => k H2 (e1.trans e2)⟩
def sp_rutx (K : PySem.W.Frag) (CI : Addr) : Sp := fun vs H Q E => ∃ (a : Addr) (ds : List Nat) (st stop : Nat), vs = [.ref a, .int (st : Int), .int (stop : Int)] ∧ SqL K H a ((cs ds).map V.int) ∧ ds.length ≤ 90000 ∧ (∀ d ∈ ds, d < 256) ∧ st ≤ stop ∧ stop ≤ ds.length ∧ (∀ n, outT ds st stop = errT n → RdErr E CI "InvalidText" n H) ∧ (∀ tx, outT ds st stop = textD tx → RetL ((cs tx).map V.int) H Q)
theorem ok_read_utf8 (T : TX K mg) : FnOk P w K mg base (L2N.CX P w) 4 T.a_read_utf8 T.d_read_utf8 ["data", "start", "stop"] (sp_rutx K T.C_InvalidText) := by
  refine T.F_read_utf8.okN sc_read_utf8 (fun vs H Q E h => by obtain ⟨a, ds, st, stop, rfl, _⟩ := h; rfl) (fun cdv A outer s0 H vs Q E hr h => ?_)
  obtain ⟨a, ds, st, stop, rfl, hS, hdl, hb, hle, hsl, kE, k⟩ := h
  refine ⟨_, (pss_cons (ps_set (i := 3) sc_read_utf8.nd rfl (Or.inl rfl) (pe_lst pa_nil))
      (pss_cons (ps_set (i := 4) sc_read_utf8.nd rfl (Or.inl rfl) (pv 1))
      (pss_cons (ps_while (passes_of rfl) (pt_cmpR op_lt (pv 4) (pv 2) (nomark _)) (pss_cons (ps_set (i := 5) sc_read_utf8.nd rfl (Or.inl rfl) (pe_call (ok_count_told T) (hr.mono (by decide)) (by rfl) T.g_count_told T.F_count_told.kp T.b_count_told .nil pass0 (pa_cons (pe_ix (r := rIxL K) ix_list (pv 0) (pv 4) (fun _ _ => rfl)) pa_nil)))
        (pss_cons (ps_if (PW.pt (pw_or (pt_cmpR op_eq (pv 5) pe_int (nomark _)) (pw_or1 (pt_cmpR op_gt (pe_op op_add (pv 4) (pv 5)) (pv 2) (nomark _))))) (pss_one (L2N.ps_raise rfl (L2N.takes_of rfl rfl rfl rfl) (pmkN_oex T.x_InvalidText.ox T.x_InvalidText.iC T.ti_MonochordError_init (ok_MonochordError_init T) (hr.mono (by decide)) T.b_MonochordError_init .nil pass0 (by rfl) T.g_InvalidText (pa_cons (pv 4) pa_nil)))) pss_nil)
        (pss_cons (ps_expr (pe_bm PySem.F.plainAttrs_list PySem.F.slot_list_append PySem.F.type_list_append mt_append (pv 3) (pa_cons (pe_callX (ok_read_point T) (hr.mono (by decide)) (by rfl) T.g_read_point T.F_read_point.kp T.b_read_point .nil (fun σ => L2N.passAt (L2N.takes_of rfl rfl rfl rfl) σ) (pa_cons (pv 0) (pa_cons (pv 4) (pa_cons (pv 5) pa_nil)))) pa_nil)))
        (pss_one (ps_aug (i := 4) sc_read_utf8.nd rfl (Or.inl rfl) (pv 5) ip_add))))))
      (pss_one (ps_ret (pv 3)))))), ?_⟩
  refine q_asgL (xs := []) (el_lst ea_nil (by decide)) fun q H1 hq e1 g1 => ?_
  refine q_asg (ev_var rfl) fun H2 e2 => ?_
  refine q_while (fun m σ' H' => ∃ (at_ f : Nat) (tx : List Nat) (z : Option V), m = stop - at_ ∧ at_ ≤ stop ∧ stop - at_ ≤ f ∧ tx.length ≤ at_ ∧ outR ds stop f at_ tx = outT ds st stop ∧ σ' = [some (.ref a), some (.int (st : Int)), some (.int (stop : Int)), some (.ref q), some (.int (at_ : Int)), z] ∧ Ex H H' ∧ H' q = some (.lst ((cs tx).map V.int))) (stop - st) ⟨st, stop - st, [], none, rfl, hle, Nat.le_refl _, Nat.zero_le _, rfl, rfl, e1.trans e2, e2 _ _ g1⟩ ?_
  rintro m σ' H3 ⟨at_, f, tx, z, rfl, hat, hf, htl, hO, rfl, ex, gq⟩
  refine ⟨decide (at_ < stop), et_is (et_test (ev_I0 (ev_var rfl) (ev_var rfl))) (decide_eq_decide.mpr (by omega)), fun hlt H4 e4 => ?_, fun hlt H4 e4 => ?_⟩
  · have hlt := of_decide_eq_true hlt
    obtain ⟨f, rfl⟩ : ∃ g, f = g + 1 := ⟨f - 1, by omega⟩
    unfold outR at hO
    rw [if_pos hlt] at hO
    have hd : ds[at_]? = some (ds.getD at_ 0) := by rw [List.getD_eq_getElem?_getD, List.getElem?_eq_getElem (by omega)]; rfl
    have hd256 := hb _ (List.mem_of_getElem? hd)
    unfold seqF at hO
    generalize ds.getD at_ 0 = d at *
    obtain ⟨n, hn⟩ : ∃ n, cntT d = n := ⟨_, rfl⟩
    have hn4 : n ≤ 4 := by rw [← hn]; exact cntT_le d
    rw [hn] at hO
    refine ⟨fun σ2 H2 => ∃ p : Nat, 1 ≤ n ∧ at_ + n ≤ stop ∧ outR ds stop f (at_ + n) (tx ++ [p]) = outT ds st stop ∧ σ2 = [some (.ref a), some (.int (st : Int)), some (.int (stop : Int)), some (.ref q), some (.int ((at_ + n : Nat) : Int)), some (.int (n : Int))] ∧ Ex H H2 ∧ H2 q = some (.lst ((cs (tx ++ [p])).map V.int)), fun σ2 H2 hN => ?_, ?_⟩
    · obtain ⟨p, hn1, hfit, hO2, rfl, ex2, g2⟩ := hN
      exact ⟨_, by omega, at_ + n, f, tx ++ [p], _, rfl, hfit, by omega, by rw [List.length_append, List.length_singleton]; omega, hO2, rfl, ex2, g2⟩
    refine q_asg (v := .int (n : Int)) (Ev.is (ev_told (ev_ixS (i := 0) (n := (at_ : Int)) (Ev.s (ev_var rfl) (ex_l (ex.trans e4) hS)) (ev_var rfl) (at_of (j := at_) rfl (at_int (cs_at hd))))) (by rw [hn])) fun H5 e5 => ?_
    refine q_when (b := decide (n = 0 ∨ stop < at_ + n)) (et_is (et_or (a := decide (n = 0)) (b := decide (stop < at_ + n)) (et_is (et_test (ev_eq (ev_var rfl) ev_c rfl)) (decide_eq_decide.mpr ⟨fun h => by have := V.int.inj h; omega, fun h => by rw [h]; rfl⟩)) fun _ => et_is (et_test (ev_I0 (ev_I0 (ev_var rfl) (ev_var rfl)) (ev_var rfl))) (decide_eq_decide.mpr (by omega))) (by rw [Bool.decide_or])) (fun hc H6 e6 => ?_) fun hc H6 e6 => ?_
    · rw [if_pos (of_decide_eq_true hc)] at hO
      exact mk_err T.x_InvalidText (ea_cons (ev_var rfl) ea_nil) fun H7 dd hdd e7 he => kE at_ hO.symm H7 dd (ex.trans (e4.trans (e5.trans (e6.trans e7)))) he
    have hc := of_decide_eq_false hc
    rw [if_neg hc] at hO
    have e46 := e4.trans (e5.trans e6)
    refine q_appX (sp := sp_rpx K T.C_InvalidText) (dvs := []) (args := [.ref a, .int (at_ : Int), .int (n : Int)]) (e46 _ _ gq) (ev_var rfl) (ea_cons (ev_var rfl) (ea_cons (ev_var rfl) (ea_cons (ev_var rfl) ea_nil))) fun H7 e7 => ⟨a, ds, at_, d, n, rfl, ex_l (ex.trans (e46.trans e7)) hS, by omega, hd, hd256, hn.symm, by omega, by omega, fun p hp H8 e8 => ?_, fun hp H8 dd e8 he => ?_⟩
    · rw [hp] at hO
      have g8 := (e46.trans (e7.trans e8)) _ _ gq
      refine ⟨q, _, _, rfl, rfl, g8, sz_lt (by rw [List.length_map, cs_len]; omega), ?_⟩
      refine s_aug (a := (at_ : Int)) (b := (n : Int)) rfl (ev_var rfl) fun H9 e9 => ⟨p, by omega, by omega, hO, ?_, (Ex.mut (ex.trans (e46.trans (e7.trans e8))) hq).trans e9, e9 _ _ ?_⟩
      · show [_, _, _, _, some (V.int ((at_ : Int) + (n : Int))), _] = _
        rw [show (at_ : Int) + (n : Int) = ((at_ + n : Nat) : Int) by omega]
      · rw [upd_same, cs_append, List.map_append]
        rfl
    · rw [hp] at hO
      exact kE at_ hO.symm H8 dd (ex.trans (e46.trans (e7.trans e8))) he
  · have hlt := of_decide_eq_false hlt
    rw [outR_end (by omega)] at hO
    exact s_ret (v := .ref q) (ev_var rfl) fun H5 e5 => k tx hO.symm q H5 hq (ex.trans (e4.trans e5)) ((e4.trans e5) _ _ gq)

/-! ### what the law expects -/
def sp_llen : Sp := fun vs H Q _ => ∃ d : Nat, vs = [.int (d : Int)] ∧ RetV (.int (cntT d : Int)) H Q
theorem ok_law_length (T : TX K mg) : FnOk P w K mg base CX0 1 T.a_law_length T.d_law_length ["first"] sp_llen := by
  refine T.F_law_length.ok sc_law_length (fun vs H Q E h => by obtain ⟨d, rfl, _⟩ := h; rfl) (fun cdv A outer s0 H vs Q E hr h => ?_)
  obtain ⟨d, rfl, k⟩ := h
  refine ⟨_, (pss_cons (ps_if (pt_cmpR op_lt (pv 0) pe_int (nomark _)) (pss_one (ps_ret pe_int)) pss_nil)
      (pss_cons (ps_if (pt_chain op_le op_lt pe_int (pv 0) pe_int) (pss_one (ps_ret pe_int)) pss_nil)
      (pss_cons (ps_if (pt_chain op_le op_lt pe_int (pv 0) pe_int) (pss_one (ps_ret pe_int)) pss_nil)
      (pss_cons (ps_if (pt_chain op_le op_lt pe_int (pv 0) pe_int) (pss_one (ps_ret pe_int)) pss_nil)
      (pss_one (ps_ret pe_int)))))), ?_⟩
  rw [cntT_eq] at k
  have two : ∀ (x y : Nat) (i j : Int), i = (x : Int) → j = (y : Int) → (decide (i ≤ (d : Int)) && decide ((d : Int) < j)) = decide (x ≤ d ∧ d < y) := fun x y i j hi hj => by
    rw [Bool.eq_iff_iff, Bool.and_eq_true, decide_eq_true_iff, decide_eq_true_iff, decide_eq_true_iff]
    omega
  refine q_when (b := decide (d < 128)) (et_is (et_test (ev_I0 (ev_var rfl) ev_c)) (decide_eq_decide.mpr (by omega))) (fun h H1 e1 => ?_) (fun h H1 e1 => ?_)
  · rw [if_pos (of_decide_eq_true h)] at k
    exact s_ret ev_c fun H2 e2 => k.go (e1.trans e2)
  rw [if_neg (of_decide_eq_false h)] at k
  refine q_when (b := decide (192 ≤ d ∧ d < 224)) (et_is (et_test (ev_chain ev_c (ev_var rfl) ev_c)) (two 192 224 _ _ rfl rfl)) (fun h H2 e2 => ?_) (fun h H2 e2 => ?_)
  · rw [if_pos (of_decide_eq_true h)] at k
    exact s_ret ev_c fun H3 e3 => k.go (e1.trans (e2.trans e3))
  rw [if_neg (of_decide_eq_false h)] at k
  refine q_when (b := decide (224 ≤ d ∧ d < 240)) (et_is (et_test (ev_chain ev_c (ev_var rfl) ev_c)) (two 224 240 _ _ rfl rfl)) (fun h H3 e3 => ?_) (fun h H3 e3 => ?_)
  · rw [if_pos (of_decide_eq_true h)] at k
    exact s_ret ev_c fun H4 e4 => k.go (e1.trans (e2.trans (e3.trans e4)))
  rw [if_neg (of_decide_eq_false h)] at k
  refine q_when (b := decide (240 ≤ d ∧ d < 248)) (et_is (et_test (ev_chain ev_c (ev_var rfl) ev_c)) (two 240 248 _ _ rfl rfl)) (fun h H4 e4 => ?_) (fun h H4 e4 => ?_)
  · rw [if_pos (of_decide_eq_true h)] at k
    exact s_ret ev_c fun H5 e5 => k.go (e1.trans (e2.trans (e3.trans (e4.trans e5))))
  rw [if_neg (of_decide_eq_false h)] at k
  exact s_ret ev_c fun H5 e5 => k.go (e1.trans (e2.trans (e3.trans (e4.trans e5))))
theorem ev_llen {σ : L2.St} {H : Hp} {te : TE} {E : XK} {d : Nat} (h : Ev te σ H (.int (d : Int))) : Ev (tCall sp_llen [] E (tCons te tNil)) σ H (.int (cntT d : Int)) := ev_call (ea_cons h ea_nil) fun H1 _ Q q _ => ⟨d, rfl, q⟩
def SeqV (H : Hp) (v : V) (r : Option (Nat × Nat)) : Prop := match r with | none => v = .non | some pn => ∃ t, v = .ref t ∧ H t = some (.tup [.int (pn.1 : Int), .int (pn.2 : Int)])
def sp_lseq (K : PySem.W.Frag) : Sp := fun vs H Q _ => ∃ (a : Addr) (ds : List Nat) (at_ stop : Nat), vs = [.ref a, .int (at_ : Int), .int (stop : Int)] ∧ SqL K H a ((cs ds).map V.int) ∧ ds.length ≤ 90000 ∧ (∀ d ∈ ds, d < 256) ∧ at_ < stop ∧ stop ≤ ds.length ∧ ∀ v H', Ex H H' → SeqV H' v (seqF ds at_ stop) → Q v H'
theorem mask_head {d n : Nat} (h : n = cntT d) (hd : d < 256) (h2 : 2 ≤ n) (h4 : n ≤ 4) : ∃ m : Nat, [0, 0, 31, 15, 7][n]? = some m ∧ Builtin.bitAnd (d : Int) (m : Int) = ((headV d n : Nat) : Int) := by
  have l2 : leastN 2 = 192 := rfl
  have l3 : leastN 3 = 224 := rfl
  have l4 : leastN 4 = 240 := rfl
  rw [cntT_eq] at h
  have e5 := _root_.Bits.bitAnd_mask (x := (d : Int)) 5 (by omega)
  have e4 := _root_.Bits.bitAnd_mask (x := (d : Int)) 4 (by omega)
  have e3 := _root_.Bits.bitAnd_mask (x := (d : Int)) 3 (by omega)
  have p5 : (2 : Int) ^ 5 = 32 := rfl
  have p4 : (2 : Int) ^ 4 = 16 := rfl
  have p3 : (2 : Int) ^ 3 = 8 := rfl
  rw [p5] at e5
  rw [p4] at e4
  rw [p3] at e3
  unfold headV
  split at h
  · omega
  split at h
  · subst h
    exact ⟨31, rfl, by rw [show ((31 : Nat) : Int) = 32 - 1 from rfl, e5]; omega⟩
  split at h
  · subst h
    exact ⟨15, rfl, by rw [show ((15 : Nat) : Int) = 16 - 1 from rfl, e4]; omega⟩
  split at h
  · subst h
    exact ⟨7, rfl, by rw [show ((7 : Nat) : Int) = 8 - 1 from rfl, e3]; omega⟩
  omega
theorem min_at {n : Nat} (h2 : 2 ≤ n) (h4 : n ≤ 4) : [0, 0, 128, 2048, 65536][n]? = some (minN n) := by
  have : n = 2 ∨ n = 3 ∨ n = 4 := by omega
  rcases this with rfl | rfl | rfl <;> rfl
theorem ok_law_sequence (T : TX K mg) : FnOk P w K mg base CX0 2 T.a_law_sequence T.d_law_sequence ["data", "at", "stop"] (sp_lseq K) := by
  refine T.F_law_sequence.ok sc_law_sequence (fun vs H Q E h => by obtain ⟨a, ds, at_, stop, rfl, _⟩ := h; rfl) (fun cdv A outer s0 H vs Q E hr h => ?_)
  obtain ⟨a, ds, at_, stop, rfl, hS, hdl, hb, hlt, hsl, k⟩ := h
  refine ⟨_, (pss_cons (ps_set (i := 3) sc_law_sequence.nd rfl (Or.inl rfl) (pe_call (ok_law_length T) (hr.mono (by decide)) (by rfl) T.g_law_length T.F_law_length.kp T.b_law_length .nil pass0 (pa_cons (pe_ix (r := rIxL K) ix_list (pv 0) (pv 1) (fun _ _ => rfl)) pa_nil)))
      (pss_cons (ps_if (PW.pt (pw_or (pt_cmpR op_eq (pv 3) pe_int (nomark _)) (pw_or1 (pt_cmpR op_gt (pe_op op_add (pv 1) (pv 3)) (pv 2) (nomark _))))) (pss_one (ps_ret pe_non)) pss_nil)
      (pss_cons (ps_if (pt_cmpR op_eq (pv 3) pe_int (nomark _)) (pss_one (ps_ret (pe_tup (pa_cons (pe_ix (r := rIxL K) ix_list (pv 0) (pv 1) (fun _ _ => rfl)) (pa_cons pe_int pa_nil))))) pss_nil)
      (pss_cons (ps_if (pt_not (pt_val (pe_callB (r := rAll K) (cr_all rfl) (by rfl) T.m_all PyProof.Rows.boot_all (pa_cons (pe_lc (own := [("byte", 4)]) (g := gName 4) (tt := tYes) rfl sc_law_sequence.nd (pi_list (pe_slice (r := rSlL K) sl_list (pv 0) (po_some (pe_op op_add (pv 1) pe_int)) (po_some (pe_op op_add (pv 1) (pv 3))))) (blkOk_by (N := ["data", "at", "stop", "length", "byte", "point"]) (sc := defScope s_law_sequence) (by decide +kernel)) (fun _ _ _ _ _ => pg_name (i := 4) sc_law_sequence.nd rfl (Or.inl rfl)) (fun _ _ _ _ _ => pts_nil) (fun _ _ _ _ _ => (pe_chain op_le op_lt pe_int (pv 4) pe_int))) pa_nil)))) (pss_one (ps_ret pe_non)) pss_nil)
      (pss_cons (ps_set (i := 5) sc_law_sequence.nd rfl (Or.inl rfl) (pe_op op_and (pe_ix (r := rIxL K) ix_list (pv 0) (pv 1) (fun _ _ => rfl)) (pe_ix (r := rIxL K) ix_list (pe_lst (pa_cons pe_int (pa_cons pe_int (pa_cons pe_int (pa_cons pe_int (pa_cons pe_int pa_nil)))))) (pv 3) (fun _ _ => rfl))))
      (pss_cons (ps_for PassesOwn.never rfl (pi_list (pe_slice (r := rSlL K) sl_list (pv 0) (po_some (pe_op op_add (pv 1) pe_int)) (po_some (pe_op op_add (pv 1) (pv 3))))) (pg_name (i := 4) sc_law_sequence.nd rfl (Or.inl rfl)) (pss_one (ps_set (i := 5) sc_law_sequence.nd rfl (Or.inl rfl) (pe_op op_sub (pe_op op_add (pe_op op_mul (pv 5) pe_int) (pv 4)) pe_int))))
      (pss_cons (ps_if (PW.pt (pw_or (pt_cmpR op_lt (pv 5) (pe_ix (r := rIxL K) ix_list (pe_lst (pa_cons pe_int (pa_cons pe_int (pa_cons pe_int (pa_cons pe_int (pa_cons pe_int pa_nil)))))) (pv 3) (fun _ _ => rfl)) (nomark _)) (pw_or (pt_cmpR op_gt (pv 5) pe_int (nomark _)) (pw_or1 (pt_chain op_le op_lt pe_int (pv 5) pe_int))))) (pss_one (ps_ret pe_non)) pss_nil)
      (pss_one (ps_ret (pe_tup (pa_cons (pv 5) (pa_cons (pv 3) pa_nil)))))))))))), ?_⟩
  have hd : ds[at_]? = some (ds.getD at_ 0) := by rw [List.getD_eq_getElem?_getD, List.getElem?_eq_getElem (by omega)]; rfl
  have hd256 := hb _ (List.mem_of_getElem? hd)
  unfold seqF at k
  generalize ds.getD at_ 0 = d at *
  obtain ⟨n, hn⟩ : ∃ n, cntT d = n := ⟨_, rfl⟩
  have hn4 : n ≤ 4 := by rw [← hn]; exact cntT_le d
  rw [hn] at k
  have byte : ∀ {σ : L2.St} {H' : Hp}, σ[0]? = some (some (.ref a)) → σ[1]? = some (some (.int (at_ : Int))) → Ex H H' → Ev (tOp (rIxL K) (tVar 0) (tVar 1)) σ H' (.int (d : Int)) := fun h1 h2 e => ev_ixS (i := 0) (n := (at_ : Int)) (Ev.s (ev_var h1) (ex_l e hS)) (ev_var h2) (at_of (j := at_) rfl (at_int (cs_at hd)))
  refine q_asg (v := .int (n : Int)) (Ev.is (ev_llen (byte rfl rfl (Ex.refl _))) (by rw [hn])) fun H1 e1 => ?_
  refine q_when (b := decide (n = 0 ∨ stop < at_ + n)) (et_is (et_or (a := decide (n = 0)) (b := decide (stop < at_ + n)) (et_is (et_test (ev_eq (ev_var rfl) ev_c rfl)) (decide_eq_decide.mpr ⟨fun h => by have := V.int.inj h; omega, fun h => by rw [h]; rfl⟩)) fun _ => et_is (et_test (ev_I0 (ev_I0 (ev_var rfl) (ev_var rfl)) (ev_var rfl))) (decide_eq_decide.mpr (by omega))) (by rw [Bool.decide_or])) (fun hc H2 e2 => ?_) fun hc H2 e2 => ?_
  · rw [if_pos (of_decide_eq_true hc)] at k
    exact s_ret ev_c fun H3 e3 => k _ H3 (e1.trans (e2.trans e3)) rfl
  have hc := of_decide_eq_false hc
  rw [if_neg hc] at k
  obtain ⟨xs, hxs⟩ : ∃ xs, (ds.drop (at_ + 1)).take (n - 1) = xs := ⟨_, rfl⟩
  rw [hxs] at k
  have hxl : xs.length = n - 1 := by rw [← hxs, List.length_take, List.length_drop]; omega
  unfold seqP at k
  have e12 := e1.trans e2
  refine q_when (b := decide (n = 1)) (et_is (et_test (ev_eq (ev_var rfl) ev_c rfl)) (by rw [decide_eq_decide]; exact ⟨fun h => by have := V.int.inj h; omega, fun h => by rw [h]; rfl⟩)) (fun h H3 e3 => ?_) (fun h H3 e3 => ?_)
  · have h := of_decide_eq_true h
    rw [if_pos h] at k
    exact s_retU (xs := [.int (d : Int), .int (n : Int)]) (eu_tup (ea_cons (byte rfl rfl (e12.trans e3)) (ea_cons (Ev.is ev_c (by rw [h]; rfl)) ea_nil)) (Nat.le_of_ble_eq_true rfl)) fun t H4 ht e4 g4 => k _ H4 (e12.trans (e3.trans e4)) ⟨t, rfl, g4⟩
  have h : ¬ n = 1 := of_decide_eq_false h
  rw [if_neg h] at k
  have e13 := e12.trans e3
  have slice : ∀ {σ : L2.St} {H' : Hp}, σ[0]? = some (some (.ref a)) → σ[1]? = some (some (.int (at_ : Int))) → σ[3]? = some (some (.int (n : Int))) → Ex H H' → EvL (tSl (rSlL K) (tVar 0) (tPart (tOp (rI0 fun i j => .int (i + j)) (tVar 1) (tC (.int 1)))) (tPart (tOp (rI0 fun i j => .int (i + j)) (tVar 1) (tVar 3)))) σ H' ((cs xs).map V.int) := fun h0 h1 h3 e => EvL.is (el_mid (i := at_ + 1) (j := at_ + n) (Ev.s (ev_var h0) (ex_l e hS)) (Ev.is (ev_I0 (ev_var h1) ev_c) (congrArg V.int (by omega))) (Ev.is (ev_I0 (ev_var h1) (ev_var h3)) (congrArg V.int (by omega)))) (by rw [show at_ + n - (at_ + 1) = n - 1 by omega, cs_drop, cs_take, hxs])
  refine q_when (b := !xs.all okB) (et_is (et_not (et_B (ev_all (bs := xs.map okB) (b := xs.all okB) (EvR.s (EvL.r (EvL.is (xs := (xs.map okB).map V.bl) (el_lcS _ (EvR.s (EvL.r (slice rfl rfl rfl e13))) (by rw [List.length_map, List.length_map, List.length_map, cs_len]) (by rw [List.length_map, List.length_map]; omega) (fun _ => rfl) fun i x H4 e4 hx => ?_) rfl))) (by rw [List.all_map]; rfl)))) rfl) (fun hf H4 e4 => ?_) fun hf H4 e4 => ?_
  · obtain ⟨b, hb', hi, rfl⟩ := cs_get hx
    refine ⟨.bl (okB b), by rw [List.getElem?_map, List.getElem?_map, hb']; rfl, Ev.is (ev_chain ev_c (ev_var rfl) ev_c) (congrArg V.bl ?_)⟩
    unfold okB
    rw [Bool.eq_iff_iff, Bool.and_eq_true, Bool.and_eq_true, decide_eq_true_iff, decide_eq_true_iff, decide_eq_true_iff, decide_eq_true_iff]
    omega
  · rw [if_neg (by rw [Bool.not_eq_true'] at hf; rw [hf]; decide)] at k
    exact s_ret ev_c fun H5 e5 => k _ H5 (e13.trans (e4.trans e5)) rfl
  have hf : xs.all okB = true := by rwa [Bool.not_eq_false'] at hf
  rw [if_pos hf] at k
  have hall := List.all_eq_true.mp hf
  have e14 := e13.trans e4
  obtain ⟨mk, hmk1, hmk2⟩ := mask_head hn.symm hd256 (by omega) hn4
  refine q_asg (v := .int ((headV d n : Nat) : Int)) (Ev.is (ev_I0 (byte rfl rfl e14) (ev_ixS (i := 0) (n := (n : Int)) (v := .int (mk : Int)) (EvR.s (EvL.r (el_lst (vs := (cs [0, 0, 31, 15, 7]).map V.int) (ea_cons ev_c (ea_cons ev_c (ea_cons ev_c (ea_cons ev_c (ea_cons ev_c ea_nil))))) (by decide)))) (ev_var rfl) (at_of (j := n) rfl (at_int (cs_at hmk1))))) (congrArg V.int hmk2)) fun H5 e5 => ?_
  have e15 := e14.trans e5
  refine q_forNLn (K := K) (xs := (cs xs).map V.int) (slice rfl rfl rfl e15) (fun q i σ' H' => ∃ z, σ' = [some (.ref a), some (.int (at_ : Int)), some (.int (stop : Int)), some (.int (n : Int)), z, some (.int ((foldP (headV d n) (xs.take i) : Nat) : Int))] ∧ Ex H H' ∧ H' q = some (.lst ((cs xs).map V.int))) (fun q H6 hq e6 g6 => ⟨none, rfl, e15.trans e6, g6⟩) (fun q i σ' H' _ h => by obtain ⟨_, _, _, g⟩ := h; exact sq_of g) ?_ ?_
  · rintro q i x σ' H6 hx ⟨z, rfl, ex, gq⟩
    obtain ⟨b, hb', hi, rfl⟩ := cs_get hx
    have hf2 := hall b (List.mem_of_getElem? hb')
    unfold okB at hf2
    rw [Bool.and_eq_true, decide_eq_true_iff, decide_eq_true_iff] at hf2
    have htk : xs.take (i + 1) = xs.take i ++ [b] := by rw [List.take_add_one, hb']; rfl
    exact s_asg (v := .int ((foldP (headV d n) (xs.take (i + 1)) : Nat) : Int)) (Ev.is (ev_I0 (ev_I0 (ev_I (ev_var rfl) ev_c (.inr (by decide))) (ev_var rfl)) ev_c) (congrArg V.int (by rw [htk, foldP_snoc]; omega))) fun H7 e7 => ⟨_, rfl, ex.trans e7, e7 _ _ gq⟩
  · rintro q σ' H6 ⟨z, rfl, ex, gq⟩
    rw [List.length_map, cs_len, List.take_length]
    generalize foldP (headV d n) xs = p at *
    refine q_when (b := badP n p) (et_is (et_or (a := decide (p < minN n)) (b := decide (1114111 < p) || (decide (55296 ≤ p) && decide (p < 57344))) (et_is (et_test (ev_I0 (ev_var rfl) (ev_ixS (i := 0) (n := (n : Int)) (v := .int ((minN n : Nat) : Int)) (EvR.s (EvL.r (el_lst (vs := (cs [0, 0, 128, 2048, 65536]).map V.int) (ea_cons ev_c (ea_cons ev_c (ea_cons ev_c (ea_cons ev_c (ea_cons ev_c ea_nil))))) (by decide)))) (ev_var rfl) (at_of (j := n) rfl (at_int (cs_at (min_at (by omega) hn4))))))) (decide_eq_decide.mpr (by omega))) fun _ => et_or (a := decide (1114111 < p)) (b := decide (55296 ≤ p) && decide (p < 57344)) (et_is (et_test (ev_I0 (ev_var rfl) ev_c)) (decide_eq_decide.mpr (by omega))) fun _ => et_is (et_test (ev_chain ev_c (ev_var rfl) ev_c)) ?_) rfl) (fun hb H7 e7 => ?_) fun hb H7 e7 => ?_
    · rw [Bool.eq_iff_iff, Bool.and_eq_true, Bool.and_eq_true, decide_eq_true_iff, decide_eq_true_iff, decide_eq_true_iff, decide_eq_true_iff]
      omega
    · rw [if_pos hb] at k
      exact s_ret ev_c fun H8 e8 => k _ H8 (ex.trans (e7.trans e8)) rfl
    · rw [if_neg (by rw [hb]; decide)] at k
      exact s_retU (xs := [.int (p : Int), .int (n : Int)]) (eu_tup (ea_cons (ev_var rfl) (ea_cons (ev_var rfl) ea_nil)) (Nat.le_of_ble_eq_true rfl)) fun t H8 ht e8 g8 => k _ H8 (ex.trans (e7.trans e8)) ⟨t, rfl, g8⟩
def sp_lexp (K : PySem.W.Frag) : Sp := fun vs H Q _ => ∃ (a : Addr) (ds : List Nat) (st stop : Nat), vs = [.ref a, .int (st : Int), .int (stop : Int)] ∧ SqL K H a ((cs ds).map V.int) ∧ ds.length ≤ 90000 ∧ (∀ d ∈ ds, d < 256) ∧ st ≤ stop ∧ stop ≤ ds.length ∧ ∀ v H', Ex H H' → Dp K H' v (outT ds st stop) → Q v H'
theorem ok_law_expected (T : TX K mg) : FnOk P w K mg base CX0 3 T.a_law_expected T.d_law_expected ["data", "start", "stop"] (sp_lexp K) := by
  refine T.F_law_expected.ok sc_law_expected (fun vs H Q E h => by obtain ⟨a, ds, st, stop, rfl, _⟩ := h; rfl) (fun cdv A outer s0 H vs Q E hr h => ?_)
  obtain ⟨a, ds, st, stop, rfl, hS, hdl, hb, hle, hsl, k⟩ := h
  refine ⟨_, (pss_cons (ps_set (i := 3) sc_law_expected.nd rfl (Or.inl rfl) (pe_lst pa_nil))
      (pss_cons (ps_set (i := 4) sc_law_expected.nd rfl (Or.inl rfl) (pv 1))
      (pss_cons (ps_for PassesOwn.never rfl (pi_range1 (by rfl) T.m_range (pa_cons (pe_op op_sub (pv 2) (pv 1)) pa_nil)) (pg_name (i := 5) sc_law_expected.nd rfl (Or.inl rfl)) (pss_one (ps_if (pt_cmpR op_lt (pv 4) (pv 2) (nomark _)) (pss_cons (ps_set (i := 6) sc_law_expected.nd rfl (Or.inl rfl) (pe_call (ok_law_sequence T) (hr.mono (by decide)) (by rfl) T.g_law_sequence T.F_law_sequence.kp T.b_law_sequence .nil pass0 (pa_cons (pv 0) (pa_cons (pv 4) (pa_cons (pv 2) pa_nil)))))
          (pss_cons (ps_if (pt_cmpR op_isN1 (pv 6) pe_non (nomark _)) (pss_one (ps_ret (pe_tup (pa_cons pe_str (pa_cons pe_bl (pa_cons (pv 4) pa_nil)))))) pss_nil)
          (pss_cons (ps_expr (pe_bm PySem.F.plainAttrs_list PySem.F.slot_list_append PySem.F.type_list_append mt_append (pv 3) (pa_cons (pe_ix (r := rIxT K) ix_tup (pv 6) pe_int (fun _ _ => rfl)) pa_nil)))
          (pss_one (ps_set (i := 4) sc_law_expected.nd rfl (Or.inl rfl) (pe_op op_add (pv 4) (pe_ix (r := rIxT K) ix_tup (pv 6) pe_int (fun _ _ => rfl)))))))) pss_nil)))
      (pss_one (ps_ret (pe_tup (pa_cons pe_str (pa_cons (pv 3) pa_nil)))))))), ?_⟩
  refine q_asgL (xs := []) (el_lst ea_nil (by decide)) fun q H1 hq e1 g1 => ?_
  refine q_asg (ev_var rfl) fun H2 e2 => ?_
  refine q_forR1 (n := ((stop - st : Nat) : Int)) (ea_cons (Ev.is (ev_I0 (ev_var rfl) (ev_var rfl)) (congrArg V.int (by omega))) ea_nil) (by omega) (fun i σ' H' => ∃ (at_ : Nat) (tx : List Nat) (z5 z6 : Option V), tx.length ≤ at_ ∧ tx.length ≤ i ∧ outR ds stop (stop - st - i) at_ tx = outT ds st stop ∧ σ' = [some (.ref a), some (.int (st : Int)), some (.int (stop : Int)), some (.ref q), some (.int (at_ : Int)), z5, z6] ∧ Ex H H' ∧ H' q = some (.lst ((cs tx).map V.int))) (fun H3 e3 => ⟨st, [], none, none, Nat.zero_le _, Nat.zero_le _, rfl, rfl, e1.trans (e2.trans e3), (e2.trans e3) _ _ g1⟩) ?_ ?_
  · rintro i σ' H3 hi ⟨at_, tx, z5, z6, htl, hti, hO, rfl, ex, gq⟩
    have hf : stop - st - i = (stop - st - (i + 1)) + 1 := by omega
    rw [hf] at hO
    refine s_when (b := decide (at_ < stop)) (et_is (et_test (ev_I0 (ev_var rfl) (ev_var rfl))) (decide_eq_decide.mpr (by omega))) (fun hlt H4 e4 => ?_) fun hlt H4 e4 => ?_
    · have hlt := of_decide_eq_true hlt
      unfold outR at hO
      rw [if_pos hlt] at hO
      obtain ⟨r, hr'⟩ : ∃ r, seqF ds at_ stop = r := ⟨_, rfl⟩
      rw [hr'] at hO
      refine q_asgRaw (fun v H' => Ex H4 H' ∧ SeqV H' v r) (fun Q' q' => (ea_cons (ev_var rfl) (ea_cons (ev_var rfl) (ea_cons (ev_var rfl) ea_nil))) H4 (Ex.refl _) _ fun H5 e5 => ⟨a, ds, at_, stop, rfl, ex_l (ex.trans (e4.trans e5)) hS, hdl, hb, hlt, hsl, fun v H6 e6 hv => q' v H6 ⟨e5.trans e6, by rw [← hr']; exact hv⟩⟩) ?_
      rintro v H5 ⟨e5, hv⟩
      cases r with
      | none =>
        obtain rfl : v = .non := hv
        refine q_when (b := true) (et_is (et_test (ev_isN (ev_var rfl))) (decide_eq_true rfl)) (fun _ H6 e6 => ?_) (fun h => by cases h)
        refine s_retU (xs := [.str "error", .bl true, .int (at_ : Int)]) (eu_tup (ea_cons ev_c (ea_cons ev_c (ea_cons (ev_var rfl) ea_nil))) (Nat.le_of_ble_eq_true rfl)) fun t H7 ht e7 g7 => k _ H7 (ex.trans (e4.trans (e5.trans (e6.trans e7)))) ?_
        rw [← hO]
        exact .tup (st_of g7) (.cons (.str _) (.cons (.bl _) (.cons (.int _) .nil)))
      | some pn =>
        obtain ⟨t, rfl, ht⟩ := hv
        obtain ⟨p, n⟩ := pn
        refine q_when (b := false) (et_is (et_test (ev_isN (ev_var rfl))) (decide_eq_false fun h => by cases h)) (fun h => by cases h) fun _ H6 e6 => ?_
        have e36 := e4.trans (e5.trans e6)
        refine q_app (v := .int (p : Int)) (e36 _ _ gq) (ev_var rfl) (ev_atT (n := 0) (ev_var rfl) (st_of (e6 _ _ ht)) ev_c (at_of (j := 0) rfl rfl)) (by rw [List.length_map, cs_len]; omega) fun H7 e7 => ?_
        have hne : t ≠ q := by
          rintro rfl
          have := (e4.trans e5) _ _ gq
          rw [ht] at this
          cases this
        have ht8 : (upd H7 q (.lst ((cs tx).map V.int ++ [V.int (p : Int)]))) t = some (.tup [.int (p : Int), .int (n : Int)]) := by rw [upd_ne hne]; exact (e6.trans e7) _ _ ht
        refine s_asg (v := .int ((at_ + n : Nat) : Int)) (Ev.is (ev_I0 (ev_var rfl) (ev_atT (n := 1) (v := .int (n : Int)) (ev_var rfl) (st_of ht8) ev_c (at_of (j := 1) rfl rfl))) (congrArg V.int (by omega))) fun H8 e8 => ?_
        have hn0 : 1 ≤ n := by
          unfold seqF at hr'
          split at hr'
          · cases hr'
          · rename_i hc
            cases hs : seqP (ds.getD at_ 0) (cntT (ds.getD at_ 0)) ((ds.drop (at_ + 1)).take (cntT (ds.getD at_ 0) - 1)) with
            | none => rw [hs] at hr'; cases hr'
            | some y =>
              rw [hs] at hr'
              have := (Prod.mk.inj (Option.some.inj hr')).2
              omega
        refine ⟨at_ + n, tx ++ [p], _, _, by rw [List.length_append, List.length_singleton]; omega, by rw [List.length_append, List.length_singleton]; omega, hO, rfl, (Ex.mut (ex.trans (e36.trans e7)) hq).trans e8, e8 _ _ ?_⟩
        rw [upd_same, cs_append, List.map_append]
        rfl
    · have hlt := of_decide_eq_false hlt
      rw [outR_end (by omega)] at hO
      exact ⟨at_, tx, _, _, htl, by omega, by rw [outR_end (by omega)]; exact hO, rfl, ex.trans e4, e4 _ _ gq⟩
  · rintro σ' H3 ⟨at_, tx, z5, z6, htl, hti, hO, rfl, ex, gq⟩
    rw [Int.toNat_natCast, Nat.sub_self] at hO
    refine s_retU (xs := [.str "text", .ref q]) (eu_tup (ea_cons ev_c (ea_cons (ev_var rfl) ea_nil)) (Nat.le_of_ble_eq_true rfl)) fun t H4 ht e4 g4 => k _ H4 (ex.trans e4) ?_
    rw [← hO]
    exact .tup (st_of g4) (.cons (.str _) (.cons (.lst (sq_of (e4 _ _ gq)) (dp_ints _)) .nil))
theorem callX {σ : L2.St} {H : Hp} {sp : Sp} {dvs args : List V} {E : L2.St → XK} {ta : TA} (h : EvA ta σ H args) {Q : VK} (k : ∀ H1, Ex H H1 → sp (args ++ dvs) H1 Q (E σ)) : tCallX sp dvs E ta σ H Q := h H (Ex.refl H) _ fun H1 e => k H1 e
theorem ok_law_outcome (T : TX K mg) : FnOk P w K mg base CX0 5 T.a_law_outcome T.d_law_outcome ["data", "start", "stop"] (sp_lexp K) := by
  refine T.F_law_outcome.ok sc_law_outcome (fun vs H Q E h => by obtain ⟨a, ds, st, stop, rfl, _⟩ := h; rfl) (fun cdv A outer s0 H vs Q E hr h => ?_)
  obtain ⟨a, ds, st, stop, rfl, hS, hdl, hb, hle, hsl, k⟩ := h
  refine ⟨_, (pss_one (L2N.ps_try_as (i := 3) rfl rfl sc_law_outcome.nd rfl rfl ⟨rfl, by decide, .inl T.g_MonochordError⟩ takesN0 (fun W pn xe tk po => (pss_one (ps_ret (pe_tup (pa_cons pe_str (pa_cons (pe_callX (ok_read_utf8 T) (hr.mono (by decide)) (by rfl) T.g_read_utf8 T.F_read_utf8.kp T.b_read_utf8 .nil (fun σ => L2N.passAt tk σ) (pa_cons (pv 0) (pa_cons (pv 1) (pa_cons (pv 2) pa_nil)))) pa_nil)))))) (fun a oe cls d pn hz hf => (pss_cons (ps_if (PW.pt (pw_or (pt_not (pt_val (L2H.pe_callH (okh_law_is_integer T) (roomH_suite hr (by decide)) (hot_of hz hf) (by rfl) T.g_law_is_integer T.F_law_is_integer.kp T.b_law_is_integer (fun _ => passH0) (pa_cons (pe_xfA hz.zc hf (pv 3)) pa_nil)))) (pw_or1 (pt_not (pt_val (pe_callB (call_isA hz.zc hf) (by rfl) T.m_isinstance PyProof.Rows.boot_isinstance (pa_cons (pv 3) (pa_cons (pe_bltn (v := V.ty "ValueError") (by rfl) T.m_ValueError (by decide +kernel) rfl) pa_nil)))))))) (pss_one (ps_ret (pe_tup (pa_cons pe_str pa_nil)))) pss_nil)
        (pss_one (ps_ret (pe_tup (pa_cons pe_str (pa_cons (pe_callB (call_isA hz.zc hf) (by rfl) T.m_isinstance PyProof.Rows.boot_isinstance (pa_cons (pv 3) (pa_cons (pe_glob (v := V.ref T.C_InvalidText) (by rfl) T.g_InvalidText rfl) pa_nil))) (pa_cons (pe_xfA hz.zc hf (pv 3)) pa_nil)))))))))), ?_⟩
  refine callX (sp := sp_rutx K T.C_InvalidText) (dvs := []) (args := [.ref a, .int (st : Int), .int (stop : Int)]) (ta := tCons (tVar 0) (tCons (tVar 1) (tCons (tVar 2) tNil))) (ea_cons (ev_var rfl) (ea_cons (ev_var rfl) (ea_cons (ev_var rfl) ea_nil))) fun H1 e1 => ⟨a, ds, st, stop, rfl, ex_l e1 hS, hdl, hb, hle, hsl, fun n hO H2 dd e2 he => ?_, fun tx hO q H2 hq e2 gq => ?_⟩
  · refine ⟨true, exm_su T.x_MonochordError T.su_InvalidText_MonochordError, fun _ a0 ha0 => ?_, fun z => by cases z⟩
    refine q_when (b := false) (et_is (et_or (a := false) (b := false) (et_is (et_not (et_B (ev_isintH (ev_xfA (ev_var rfl) rfl T.x_InvalidText.xf T.x_InvalidText.nP rfl he rfl)))) rfl) fun _ => et_is (et_not (et_B (ev_isVE (ev_var rfl) rfl T.x_InvalidText.ex rfl he (kitOne_VE T.sv_InvalidText)))) rfl) rfl) (fun h => by cases h) fun _ H3 e3 => ?_
    have he3 := he.ex e3
    refine s_retU (xs := [.str "error", .bl true, .int (n : Int)]) (eu_tup (ea_cons ev_c (ea_cons (ev_isA (ev_var rfl) rfl T.x_InvalidText.ex rfl he3 (kitOne_ref T.x_InvalidText T.su_InvalidText_InvalidText T.su_InvalidText_InvalidText)) (ea_cons (ev_xfA (ev_var rfl) rfl T.x_InvalidText.xf T.x_InvalidText.nP rfl he3 rfl) ea_nil))) (Nat.le_of_ble_eq_true rfl)) fun t H4 ht e4 g4 => k _ H4 ((e1.trans e2).trans (e3.trans e4)) ?_
    rw [hO]
    exact .tup (st_of g4) (.cons (.str _) (.cons (.bl _) (.cons (.int _) .nil)))
  · refine ⟨sz_of (Nat.le_of_ble_eq_true rfl), fun t ht => k _ _ ((e1.trans e2).trans (Ex.new ht)) ?_⟩
    rw [hO]
    exact .tup (st_of upd_same) (.cons (.str _) (.cons (.lst (sq_of (Ex.new ht _ _ gq)) (dp_ints _)) .nil))

/-! ### the law's pieces -/
def sp_lpiece (K : PySem.W.Frag) : Sp := fun vs H Q _ => ∃ (s a : Addr) (ns : List Int), vs = [.ref s, .ref a] ∧ DrS K H s a ns ∧ ∀ p (ds : List Nat) H', H p = none → Fr s H H' → H' p = some (.lst ((cs ds).map V.int)) → ds.length ≤ 4 → (∀ d ∈ ds, d < 256) → Q (.ref p) H'
theorem ok_law_piece (T : TX K mg) : FnOk P w K mg base CX0 3 T.a_law_piece T.d_law_piece ["state", "script"] (sp_lpiece K) := by
  refine T.F_law_piece.ok sc_law_piece (fun vs H Q E h => by obtain ⟨s, a, ns, rfl, _⟩ := h; rfl) (fun cdv A outer s0 H vs Q E hr h => ?_)
  obtain ⟨s, a, ns, rfl, hd, k⟩ := h
  refine ⟨_, (pss_cons (ps_set (i := 2) sc_law_piece.nd rfl (Or.inl rfl) (pe_call (ok_law_draw T) (hr.mono (by decide)) (by rfl) T.g_law_draw T.F_law_draw.kp T.b_law_draw .nil pass0 (pa_cons (pv 0) (pa_cons (pv 1) (pa_cons pe_int pa_nil)))))
      (pss_cons (ps_if (pt_cmpR op_eq (pv 2) pe_int (nomark _)) (pss_one (ps_ret (pe_lst (pa_cons (pe_call (ok_law_draw T) (hr.mono (by decide)) (by rfl) T.g_law_draw T.F_law_draw.kp T.b_law_draw .nil pass0 (pa_cons (pv 0) (pa_cons (pv 1) (pa_cons pe_int pa_nil)))) pa_nil)))) pss_nil)
      (pss_cons (ps_if (pt_cmpR op_eq (pv 2) pe_int (nomark _)) (pss_one (ps_ret (pe_lst (pa_cons (pe_call (ok_law_draw T) (hr.mono (by decide)) (by rfl) T.g_law_draw T.F_law_draw.kp T.b_law_draw .nil pass0 (pa_cons (pv 0) (pa_cons (pv 1) (pa_cons pe_int pa_nil)))) pa_nil)))) pss_nil)
      (pss_cons (ps_set (i := 3) sc_law_piece.nd rfl (Or.inl rfl) (pe_op op_add (pe_ix (r := rIxL K) ix_list (pe_lst (pa_cons pe_int (pa_cons pe_int (pa_cons pe_int (pa_cons pe_int pa_nil))))) (pe_call (ok_law_draw T) (hr.mono (by decide)) (by rfl) T.g_law_draw T.F_law_draw.kp T.b_law_draw .nil pass0 (pa_cons (pv 0) (pa_cons (pv 1) (pa_cons pe_int pa_nil)))) (fun _ _ => rfl)) (pe_call (ok_law_draw T) (hr.mono (by decide)) (by rfl) T.g_law_draw T.F_law_draw.kp T.b_law_draw .nil pass0 (pa_cons (pv 0) (pa_cons (pv 1) (pa_cons pe_int pa_nil))))))
      (pss_cons (ps_set (i := 4) sc_law_piece.nd rfl (Or.inl rfl) (pe_lst (pa_cons (pe_op op_and (pv 3) pe_int) pa_nil)))
      (pss_cons (ps_for PassesOwn.never rfl (pi_range1 (by rfl) T.m_range (pa_cons (pe_call (ok_law_draw T) (hr.mono (by decide)) (by rfl) T.g_law_draw T.F_law_draw.kp T.b_law_draw .nil pass0 (pa_cons (pv 0) (pa_cons (pv 1) (pa_cons pe_int pa_nil)))) pa_nil)) (pg_name (i := 5) sc_law_piece.nd rfl (Or.inl rfl)) (pss_cons (ps_set (i := 6) sc_law_piece.nd rfl (Or.inl rfl) (pe_op op_add pe_int (pe_call (ok_law_draw T) (hr.mono (by decide)) (by rfl) T.g_law_draw T.F_law_draw.kp T.b_law_draw .nil pass0 (pa_cons (pv 0) (pa_cons (pv 1) (pa_cons pe_int pa_nil))))))
        (pss_cut (ps_if (PW.pt (pw_and (pt_cmpR op_eq (pv 2) pe_int (nomark _)) (pw_and1 (pt_cmpR op_eq (pe_call (ok_law_draw T) (hr.mono (by decide)) (by rfl) T.g_law_draw T.F_law_draw.kp T.b_law_draw .nil pass0 (pa_cons (pv 0) (pa_cons (pv 1) (pa_cons pe_int pa_nil)))) pe_int (nomark _))))) (pss_one (ps_set (i := 6) sc_law_piece.nd rfl (Or.inl rfl) (pe_call (ok_law_draw T) (hr.mono (by decide)) (by rfl) T.g_law_draw T.F_law_draw.kp T.b_law_draw .nil pass0 (pa_cons (pv 0) (pa_cons (pv 1) (pa_cons pe_int pa_nil)))))) pss_nil)
        (pss_cut (ps_if (pt_cmpR op_eq (pv 2) pe_int (nomark _)) (pss_one (ps_set (i := 6) sc_law_piece.nd rfl (Or.inl rfl) (pe_ix (r := rIxL K) ix_list (pe_lst (pa_cons pe_int (pa_cons pe_int (pa_cons pe_int (pa_cons pe_int (pa_cons pe_int (pa_cons pe_int pa_nil))))))) (pe_call (ok_law_draw T) (hr.mono (by decide)) (by rfl) T.g_law_draw T.F_law_draw.kp T.b_law_draw .nil pass0 (pa_cons (pv 0) (pa_cons (pv 1) (pa_cons pe_int pa_nil)))) (fun _ _ => rfl)))) pss_nil)
        (pss_one (ps_expr (pe_bm PySem.F.plainAttrs_list PySem.F.slot_list_append PySem.F.type_list_append mt_append (pv 4) (pa_cons (pv 6) pa_nil))))))))
      (pss_one (ps_ret (pv 4))))))))), ?_⟩
  refine qw_asg (wi_draw hd rfl rfl ev_c (by decide) (by decide)) fun z H1 f1 hz => ?_
  obtain ⟨kd, rfl, hkd⟩ := hz
  refine q_when (et_test (ev_eq (ev_var rfl) ev_c rfl)) (fun _ H2 e2 => ?_) fun _ H2 e2 => ?_
  · have f2 := f1.tex e2
    refine wi_draw (hd.fr f2) rfl rfl ev_c (by decide) (by decide) _ fun z H3 f3 hz => ?_
    obtain ⟨d, rfl, hdn⟩ := hz
    have f23 := f2.trans f3
    exact ⟨sz_of (show 1 ≤ 100000 by decide), fun p hp => k p [d] _ (f23.fresh hp) (f23.tex (Ex.new hp)) upd_same (by show 1 ≤ 4; decide) fun x hx => by rw [List.mem_singleton.mp hx]; omega⟩
  have f2 := f1.tex e2
  refine q_when (et_test (ev_eq (ev_var rfl) ev_c rfl)) (fun _ H3 e3 => ?_) fun _ H3 e3 => ?_
  · have f3 := f2.tex e3
    refine wi_draw (hd.fr f3) rfl rfl ev_c (by decide) (by decide) _ fun z H4 f4 hz => ?_
    obtain ⟨d, rfl, hdn⟩ := hz
    have f34 := f3.trans f4
    exact ⟨sz_of (show 1 ≤ 100000 by decide), fun p hp => k p [d] _ (f34.fresh hp) (f34.tex (Ex.new hp)) upd_same (by show 1 ≤ 4; decide) fun x hx => by rw [List.mem_singleton.mp hx]; omega⟩
  have f3 := f2.tex e3
  refine qw_asg (wi_op (wi_ixL (xs := [0, 192, 224, 240]) f3.2 (el_lst (vs := (cs [0, 192, 224, 240]).map V.int) (ea_cons ev_c (ea_cons ev_c (ea_cons ev_c (ea_cons ev_c ea_nil)))) (by decide)) (fun H4 f4 => wi_draw (hd.fr (f3.trans f4)) rfl rfl ev_c (by decide) (by decide)) (fun z hz => by obtain ⟨d, rfl, h⟩ := hz; exact ⟨d, rfl, by show d < 4; omega⟩)) fun H4 f4 => wi_draw (hd.fr (f3.trans f4)) rfl rfl ev_c (by decide) (by decide)) fun z H4 f4 hz => ?_
  obtain ⟨_, _, ⟨x, rfl, -⟩, ⟨d, rfl, -⟩, rfl⟩ := hz
  have f34 := f3.trans f4
  refine q_asgL (xs := (cs [(x + d) % 256]).map V.int) (el_lst (ea_cons (Ev.is (ev_I0 (Ev.is (ev_var rfl) (congrArg V.int (show (x : Int) + (d : Int) = ((x + d : Nat) : Int) by omega))) ev_c) (congrArg V.int (and_mask255 (x + d)))) ea_nil) (Nat.le_of_ble_eq_true rfl)) fun p H5 hp e5 g5 => ?_
  have hpB : H p = none := f34.fresh hp
  have hps := ne_st hd.1 hpB
  have f5 := f34.tex e5
  refine qw_forR1 (wi_draw (hd.fr f5) rfl rfl ev_c (by decide) (by decide)) (fun i hi => by obtain ⟨d, rfl, h⟩ := hi; omega) (fun n i σ' H' => ∃ (ds : List Nat) (z5 z6 : Option V), σ' = [some (.ref s), some (.ref a), some (.int (kd : Int)), some (.int ((x : Int) + (d : Int))), some (.ref p), z5, z6] ∧ Fr s H H' ∧ H' p = some (.lst ((cs ds).map V.int)) ∧ ds.length ≤ i + 1 ∧ ∀ y ∈ ds, y < 256) ?_ ?_ ?_
  · rintro n H6 hn f6
    exact ⟨_, none, none, rfl, f5.trans f6, f6.l hps g5, (by show 1 ≤ 0 + 1; decide), fun y hy => by rw [List.mem_singleton.mp hy]; exact Nat.mod_lt _ (by decide)⟩
  · rintro n i σ' H6 hn hi ⟨ds, z5, z6, rfl, f6, gp, hl, hb⟩
    obtain ⟨nd, rfl, hnd⟩ := hn
    refine qw_asg (wi_op (wi_ev f6.2 ev_c) fun H7 f7 => wi_draw (hd.fr (f6.trans f7)) rfl rfl ev_c (by decide) (by decide)) fun z H7 f7 hz => ?_
    obtain ⟨_, _, rfl, ⟨c, rfl, hc⟩, rfl⟩ := hz
    have f67 := f6.trans f7
    refine q_cut (M := fun σ' H' => ∃ b : Nat, b < 256 ∧ σ' = [some (.ref s), some (.ref a), some (.int (kd : Int)), some (.int ((x : Int) + (d : Int))), some (.ref p), some (.int (i : Int)), some (.int (b : Int))] ∧ Fr s H6 H') ?_ ?_
    · refine sw_when (wt_and (wt_ev f67.2 (et_test (ev_eq (ev_var rfl) ev_c rfl))) fun H8 f8 _ => wt_eq (wi_draw (hd.fr (f67.trans f8)) rfl rfl ev_c (by decide) (by decide)) fun H9 f9 => wi_ev ((f67.trans f8).trans f9).2 ev_c) (fun _ H8 f8 => ?_) fun _ H8 f8 => ⟨128 + c, by omega, ?_, f7.trans f8⟩
      · refine sw_asg (wi_draw (hd.fr (f67.trans f8)) rfl rfl ev_c (by decide) (by decide)) fun z H9 f9 hz => ?_
        obtain ⟨b, rfl, hbn⟩ := hz
        exact ⟨b, by omega, rfl, f7.trans (f8.trans f9)⟩
      · show [_, _, _, _, _, _, some (V.int (128 + (c : Int)))] = _
        rw [show (128 : Int) + (c : Int) = ((128 + c : Nat) : Int) by omega]
    rintro σ' H8 ⟨b, hb256, rfl, f8⟩
    have f68 := f6.trans f8
    refine q_cut (M := fun σ' H' => ∃ b : Nat, b < 256 ∧ σ' = [some (.ref s), some (.ref a), some (.int (kd : Int)), some (.int ((x : Int) + (d : Int))), some (.ref p), some (.int (i : Int)), some (.int (b : Int))] ∧ Fr s H6 H') ?_ ?_
    · refine s_when (et_test (ev_eq (ev_var rfl) ev_c rfl)) (fun _ H9 e9 => ?_) fun _ H9 e9 => ⟨b, hb256, rfl, f8.tex e9⟩
      have f9 := f68.tex e9
      refine sw_asg (wi_ixL (xs := [128, 159, 160, 143, 144, 191]) f9.2 (el_lst (vs := (cs [128, 159, 160, 143, 144, 191]).map V.int) (ea_cons ev_c (ea_cons ev_c (ea_cons ev_c (ea_cons ev_c (ea_cons ev_c (ea_cons ev_c ea_nil)))))) (by decide)) (fun H10 f10 => wi_draw (hd.fr (f9.trans f10)) rfl rfl ev_c (by decide) (by decide)) (fun z hz => by obtain ⟨d, rfl, h⟩ := hz; exact ⟨d, rfl, by show d < 6; omega⟩)) fun z H10 f10 hz => ?_
      obtain ⟨y, rfl, hy⟩ := hz
      have hy2 : ∀ y ∈ [128, 159, 160, 143, 144, 191], y < 256 := by decide
      exact ⟨y, hy2 y hy, rfl, (f8.tex e9).trans f10⟩
    rintro σ' H9 ⟨b2, hb2, rfl, f9⟩
    have f69 := f6.trans f9
    have gp9 := f9.l hps gp
    refine s_app (v := .int (b2 : Int)) gp9 (ev_var rfl) (ev_var rfl) (by rw [List.length_map, cs_len]; omega) fun H10 e10 => ⟨ds ++ [b2], _, _, rfl, (f69.tex e10).mut hpB hps, by rw [upd_same, cs_append, List.map_append]; rfl, by rw [List.length_append, List.length_singleton]; omega, fun y hy => ?_⟩
    rcases List.mem_append.mp hy with h | h
    · exact hb y h
    · rw [List.mem_singleton.mp h]
      exact hb2
  · rintro n σ' H6 hn ⟨ds, z5, z6, rfl, f6, gp, hl, hb⟩
    obtain ⟨nd, rfl, hnd⟩ := hn
    exact s_ret (v := .ref p) (ev_var rfl) fun H7 e7 => k p ds H7 hpB (f6.tex e7) (e7 _ _ gp) (by omega) hb
theorem wl_piece {s a : Addr} {ns : List Int} {σ : L2.St} {H : Hp} {E : XK} {i j : Nat} (hd : DrS K H s a ns) (h1 : σ[i]? = some (some (.ref s))) (h2 : σ[j]? = some (some (.ref a))) : EvLW s (tCall (sp_lpiece K) [] E (tCons (tVar i) (tCons (tVar j) tNil))) σ H (fun xs => ∃ ds : List Nat, xs = (cs ds).map V.int ∧ ds.length ≤ 4 ∧ ∀ d ∈ ds, d < 256) := fun Q q =>
  ⟨_, h1, _, h2, s, a, ns, rfl, hd, fun p ds H' hp f g hl hb => q p _ H' hp f g ⟨ds, rfl, hl, hb⟩⟩
theorem ed_lexp {σ : L2.St} {H : Hp} {t1 t2 t3 : TE} {E : XK} {a : Addr} {ds : List Nat} {st stop : Nat} (h1 : Ev t1 σ H (.ref a)) (h2 : Ev t2 σ H (.int (st : Int))) (h3 : Ev t3 σ H (.int (stop : Int))) (hS : SqL K H a ((cs ds).map V.int)) (hl : ds.length ≤ 90000) (hb : ∀ d ∈ ds, d < 256) (hle : st ≤ stop) (hsl : stop ≤ ds.length) : EvD K (tCall (sp_lexp K) [] E (tCons t1 (tCons t2 (tCons t3 tNil)))) σ H (outT ds st stop) := fun H1 e Q q =>
  (ea_cons h1 (ea_cons h2 (ea_cons h3 ea_nil))) H1 e _ fun H2 e2 => ⟨a, ds, st, stop, rfl, ex_l (e.trans e2) hS, hl, hb, hle, hsl, fun v H3 e3 hv => q v H3 (e2.trans e3) hv⟩
def sp_law (K : PySem.W.Frag) : Sp := fun vs H Q _ => ∃ (a : Addr) (ns : List Int), vs = [.ref a] ∧ SqL K H a (ns.map V.int) ∧ ns.length ≤ 63 ∧ ∀ H', Q (.bl true) H'
theorem ok_law (T : TX K mg) : FnOk P w K mg base CX0 6 T.a_law T.d_law ["script"] (sp_law K) := by
  refine T.F_law.ok sc_law (fun vs H Q E h => by obtain ⟨a, ns, rfl, _⟩ := h; rfl) (fun cdv A outer s0 H vs Q E hr h => ?_)
  obtain ⟨a, ns, rfl, hS, hlen, k⟩ := h
  refine ⟨_, (pss_cons (ps_set (i := 1) sc_law.nd rfl (Or.inl rfl) (pe_lst (pa_cons pe_int (pa_cons pe_int pa_nil))))
      (pss_cons (ps_set (i := 2) sc_law.nd rfl (Or.inl rfl) (pe_lst pa_nil))
      (pss_cons (ps_for PassesOwn.never rfl (pi_range1 (by rfl) T.m_range (pa_cons (pe_call (ok_law_draw T) (hr.mono (by decide)) (by rfl) T.g_law_draw T.F_law_draw.kp T.b_law_draw .nil pass0 (pa_cons (pv 1) (pa_cons (pv 0) (pa_cons pe_int pa_nil)))) pa_nil)) (pg_name (i := 3) sc_law.nd rfl (Or.inl rfl)) (pss_one (ps_set (i := 2) sc_law.nd rfl (Or.inl rfl) (pe_op op_cat (pv 2) (pe_call (ok_law_piece T) (hr.mono (by decide)) (by rfl) T.g_law_piece T.F_law_piece.kp T.b_law_piece .nil pass0 (pa_cons (pv 1) (pa_cons (pv 0) pa_nil)))))))
      (pss_cons (ps_set (i := 4) sc_law.nd rfl (Or.inl rfl) (pe_call (ok_law_junk T) (hr.mono (by decide)) (by rfl) T.g_law_junk T.F_law_junk.kp T.b_law_junk .nil pass0 (pa_cons (pv 1) (pa_cons (pv 0) (pa_cons (pe_call (ok_law_draw T) (hr.mono (by decide)) (by rfl) T.g_law_draw T.F_law_draw.kp T.b_law_draw .nil pass0 (pa_cons (pv 1) (pa_cons (pv 0) (pa_cons pe_int pa_nil)))) pa_nil)))))
      (pss_cons (ps_set (i := 5) sc_law.nd rfl (Or.inl rfl) (pe_op op_cat (pe_op op_cat (pv 4) (pv 2)) (pe_call (ok_law_junk T) (hr.mono (by decide)) (by rfl) T.g_law_junk T.F_law_junk.kp T.b_law_junk .nil pass0 (pa_cons (pv 1) (pa_cons (pv 0) (pa_cons (pe_call (ok_law_draw T) (hr.mono (by decide)) (by rfl) T.g_law_draw T.F_law_draw.kp T.b_law_draw .nil pass0 (pa_cons (pv 1) (pa_cons (pv 0) (pa_cons pe_int pa_nil)))) pa_nil))))))
      (pss_cons (ps_set (i := 6) sc_law.nd rfl (Or.inl rfl) (pe_op op_add (pe_callB (r := rLenS K) call_len_seq (by rfl) T.m_len PySem.boot_len (pa_cons (pv 4) pa_nil)) (pe_callB (r := rLenS K) call_len_seq (by rfl) T.m_len PySem.boot_len (pa_cons (pv 2) pa_nil))))
      (pss_one (ps_ret (pe_cmpR (op_eqD (hu64 hr)) (pe_call (ok_law_outcome T) (hr.mono (by decide)) (by rfl) T.g_law_outcome T.F_law_outcome.kp T.b_law_outcome .nil pass0 (pa_cons (pv 5) (pa_cons (pe_callB (r := rLenS K) call_len_seq (by rfl) T.m_len PySem.boot_len (pa_cons (pv 4) pa_nil)) (pa_cons (pv 6) pa_nil)))) (pe_call (ok_law_expected T) (hr.mono (by decide)) (by rfl) T.g_law_expected T.F_law_expected.kp T.b_law_expected .nil pass0 (pa_cons (pv 5) (pa_cons (pe_callB (r := rLenS K) call_len_seq (by rfl) T.m_len PySem.boot_len (pa_cons (pv 4) pa_nil)) (pa_cons (pv 6) pa_nil)))) (nomark _)))))))))), ?_⟩
  refine q_asgL (xs := [.int 0, .int 0]) (el_lst (ea_cons ev_c (ea_cons ev_c ea_nil)) (by decide)) fun s B hs e1 g1 => ?_
  have hd : DrS K B s a ns := ⟨⟨0, 0, g1⟩, scr_mk hs e1 hS⟩
  clear g1 e1 hS
  refine q_asgL (xs := []) (el_lst ea_nil (by decide)) fun q0 H1 hq0 e1 g1 => ?_
  have f1 := Fr.ex hd.1 e1
  refine qw_forR1 (wi_draw (hd.fr f1) rfl rfl ev_c (by decide) (by decide)) (fun i hi => by obtain ⟨d, rfl, h⟩ := hi; omega) (fun n i σ' H' => ∃ (q : Addr) (ds : List Nat) (z3 : Option V), σ' = [some (.ref a), some (.ref s), some (.ref q), z3, none, none, none] ∧ Fr s B H' ∧ q ≠ s ∧ H' q = some (.lst ((cs ds).map V.int)) ∧ ds.length ≤ 4 * i ∧ ∀ d ∈ ds, d < 256) ?_ ?_ ?_
  · rintro n H2 hn f2
    exact ⟨q0, [], none, rfl, f1.trans f2, ne_st hd.1 hq0, f2.l (ne_st hd.1 hq0) g1, Nat.zero_le _, fun d hd => by cases hd⟩
  · rintro n i σ' H2 hn hi ⟨q, ds, z3, rfl, f2, hqs, gq, hl, hb⟩
    obtain ⟨nd, rfl, hnd⟩ := hn
    refine sw_asgL (wl_catR f2.2 (ev_var rfl) hqs gq (fun H3 f3 => wl_piece (hd.fr (f2.trans f3)) rfl rfl) (fun ys hy => by obtain ⟨es, rfl, h, _⟩ := hy; rw [List.length_map, cs_len, List.length_map, cs_len]; omega)) fun p xs H3 hp f3 g3 hxs => ?_
    obtain ⟨_, ⟨es, rfl, hel, heb⟩, rfl⟩ := hxs
    refine ⟨p, ds ++ es, _, rfl, f2.trans f3, ne_st f2.2 hp, by rw [g3, cs_append, List.map_append], by rw [List.length_append]; omega, fun d hd => ?_⟩
    rcases List.mem_append.mp hd with h | h
    · exact hb d h
    · exact heb d h
  rintro n σ' H2 hn ⟨q, ds, z3, rfl, f2, hqs, gq, hl, hb⟩
  obtain ⟨nd, rfl, hnd⟩ := hn
  have hl36 : ds.length ≤ 36 := by omega
  refine qw_asgL (wl_junk (hd.fr f2) rfl rfl (wi_draw (hd.fr f2) rfl rfl ev_c (by decide) (by decide)) (fun z hz => by obtain ⟨d, rfl, h⟩ := hz; omega)) fun pf xs H3 hpf f3 gf hxs => ?_
  obtain ⟨b1, rfl, hb1l, -, hb1⟩ := hxs
  have f23 := f2.trans f3
  have hpfs := ne_st f2.2 hpf
  have gq3 := f3.l hqs gq
  refine qw_asgL (wl_cat f3.2 (el_cat (Ev.r (ev_var rfl) gf) (Ev.r (ev_var rfl) gq3) (by rw [List.length_map, cs_len, List.length_map, cs_len]; omega)) (fun H9 f9 => wl_junk (hd.fr (f23.trans f9)) rfl rfl (wi_draw (hd.fr (f23.trans f9)) rfl rfl ev_c (by decide) (by decide)) (fun z hz => by obtain ⟨d, rfl, h⟩ := hz; omega)) (fun ys hy => by obtain ⟨ds, rfl, hl, _⟩ := hy; rw [List.length_append, List.length_map, List.length_map, List.length_map, cs_len, cs_len, cs_len]; omega)) fun pd xs H4 hpd f4 gd hxs => ?_
  obtain ⟨_, ⟨b2, rfl, hb2l, -, hb2⟩, rfl⟩ := hxs
  rw [← List.map_append, ← List.map_append, ← cs_append, ← cs_append] at gd
  have gf4 := f4.l hpfs gf
  have gq4 := f4.l hqs gq3
  have hlen : ∀ {σ : L2.St} {H' : Hp} {i : Nat} {p : Addr} {ds : List Nat}, σ[i]? = some (some (.ref p)) → H' p = some (.lst ((cs ds).map V.int)) → Ev (tCB (rLenS K) (tCons (tVar i) tNil)) σ H' (.int (ds.length : Int)) := fun h g => Ev.is (ev_lenS (Ev.s (ev_var h) (sq_of g))) (by rw [List.length_map, cs_len])
  refine q_asg (v := .int ((b1.length + ds.length : Nat) : Int)) (Ev.is (ev_I0 (hlen rfl gf4) (hlen rfl gq4)) (congrArg V.int (by omega))) fun H5 e5 => ?_
  have hall : ∀ d ∈ b1 ++ ds ++ b2, d < 256 := fun d hd => by
    rcases List.mem_append.mp hd with h | h
    · rcases List.mem_append.mp h with h | h
      · exact hb1 d h
      · exact hb d h
    · exact hb2 d h
  have hL : (b1 ++ ds ++ b2).length = b1.length + ds.length + b2.length := by rw [List.length_append, List.length_append]
  refine s_ret (v := .bl true) (ev_eqDD (ed_lexp (ev_var rfl) (hlen rfl (e5 _ _ gf4)) (ev_var rfl) (sq_of (e5 _ _ gd)) (by omega) hall (by omega) (by omega)) (ed_lexp (ev_var rfl) (hlen rfl (e5 _ _ gf4)) (ev_var rfl) (sq_of (e5 _ _ gd)) (by omega) hall (by omega) (by omega)) (outR_shaped _ _ _)) fun H6 e6 => k H6

end
theorem all_mk {l : PySem.W.OpenLaw} {w : World} {K : PySem.W.Frag} {h : Heap} {mg : Str → Option Value} {fa : Addr} {f1 f2 f3 f4 f5 f6 f7 f8 f9 f10 f11 f12 f13 f14 f15 f16 C_MonochordError C_InvalidText : Addr} (X : K.In h) (G : h.Ns mainGlobals mg) (hfa : mg "law" = some (.ref fa))
    {od1 an1 : Option Addr} {sl1 : Array (Option Value)} {oc1 dc1 pm1 cd1 ct1 : Value} {kV1 : Value} {od2 an2 : Option Addr} {sl2 : Array (Option Value)} {oc2 dc2 pm2 cd2 ct2 : Value} {kV2 : Value} {od3 an3 : Option Addr} {sl3 : Array (Option Value)} {oc3 dc3 pm3 cd3 ct3 : Value} {kV3 : Value} {od4 an4 : Option Addr} {sl4 : Array (Option Value)} {oc4 dc4 pm4 cd4 ct4 : Value} {kV4 : Value} {od5 an5 : Option Addr} {sl5 : Array (Option Value)} {oc5 dc5 pm5 cd5 ct5 : Value} {kV5 : Value} {od6 an6 : Option Addr} {sl6 : Array (Option Value)} {oc6 dc6 pm6 cd6 ct6 : Value} {kV6 : Value} {od7 an7 : Option Addr} {sl7 : Array (Option Value)} {oc7 dc7 pm7 cd7 ct7 : Value} {kV7 : Value} {od8 an8 : Option Addr} {sl8 : Array (Option Value)} {oc8 dc8 pm8 cd8 ct8 : Value} {kV8 : Value} {od9 an9 : Option Addr} {sl9 : Array (Option Value)} {oc9 dc9 pm9 cd9 ct9 : Value} {kV9 : Value} {od10 an10 : Option Addr} {sl10 : Array (Option Value)} {oc10 dc10 pm10 cd10 ct10 : Value} {kV10 : Value} {od11 an11 : Option Addr} {sl11 : Array (Option Value)} {oc11 dc11 pm11 cd11 ct11 : Value} {kV11 : Value} {od12 an12 : Option Addr} {sl12 : Array (Option Value)} {oc12 dc12 pm12 cd12 ct12 : Value} {kV12 : Value} {od13 an13 : Option Addr} {sl13 : Array (Option Value)} {oc13 dc13 pm13 cd13 ct13 : Value} {kV13 : Value} {od14 an14 : Option Addr} {sl14 : Array (Option Value)} {oc14 dc14 pm14 cd14 ct14 : Value} {kV14 : Value} {od15 an15 : Option Addr} {sl15 : Array (Option Value)} {oc15 dc15 pm15 cd15 ct15 : Value} {kV15 : Value} {od16 an16 : Option Addr} {sl16 : Array (Option Value)} {oc16 dc16 pm16 cd16 ct16 : Value} {kV16 : Value} {xn_MonochordError xq_MonochordError : Str} {xN_MonochordError : Addr} {xb_MonochordError : List Value} {xs_MonochordError : List Str} {xu_MonochordError : List Value} {xa_MonochordError : Bool} {xc_MonochordError : Option Bool} {xd_MonochordError : Option Addr} {xj0_MonochordError xj1_MonochordError xj3_MonochordError xj5_MonochordError : Option Value} {xt_MonochordError : Tok} {xn_InvalidText xq_InvalidText : Str} {xN_InvalidText : Addr} {xb_InvalidText : List Value} {xs_InvalidText : List Str} {xu_InvalidText : List Value} {xa_InvalidText : Bool} {xc_InvalidText : Option Bool} {xd_InvalidText : Option Addr} {xj0_InvalidText xj1_InvalidText xj3_InvalidText xj5_InvalidText : Option Value} {xt_InvalidText : Tok}
    (a1 : PySem.W.findIn K (.ref C_MonochordError) "__init__" = some (some (.ref f1))) (i1 : PySem.W.isFn K (.ref f1) = true)
    (l1 : K.lookup f1 = some ⟨oc1, od1, .func (PySem.W.fnOf "__init__" "MonochordError.__init__" (defArgs s_MonochordError_init) (defBody s_MonochordError_init) (defScope s_MonochordError_init) .none kV1 dc1 pm1 an1 cd1 ct1), sl1⟩) (c1 : PySem.W.codeIn K cd1 "MonochordError.__init__" = true) (k1 : PySem.W.keepIn K (.ref f1) = true)
    (a2 : PySem.W.nsIn K mainGlobals "read_utf8" = some (some (.ref f2)))
    (l2 : K.lookup f2 = some ⟨oc2, od2, .func (PySem.W.fnOf "read_utf8" "read_utf8" (defArgs s_read_utf8) (defBody s_read_utf8) (defScope s_read_utf8) .none kV2 dc2 pm2 an2 cd2 ct2), sl2⟩) (c2 : PySem.W.codeIn K cd2 "read_utf8" = true) (k2 : PySem.W.keepIn K (.ref f2) = true)
    (a3 : PySem.W.nsIn K mainGlobals "_point_count" = some (some (.ref f3)))
    (l3 : K.lookup f3 = some ⟨oc3, od3, .func (PySem.W.fnOf "_point_count" "_point_count" (defArgs s_point_count) (defBody s_point_count) (defScope s_point_count) .none kV3 dc3 pm3 an3 cd3 ct3), sl3⟩) (c3 : PySem.W.codeIn K cd3 "_point_count" = true) (k3 : PySem.W.keepIn K (.ref f3) = true)
    (a4 : PySem.W.nsIn K mainGlobals "_least_first" = some (some (.ref f4)))
    (l4 : K.lookup f4 = some ⟨oc4, od4, .func (PySem.W.fnOf "_least_first" "_least_first" (defArgs s_least_first) (defBody s_least_first) (defScope s_least_first) .none kV4 dc4 pm4 an4 cd4 ct4), sl4⟩) (c4 : PySem.W.codeIn K cd4 "_least_first" = true) (k4 : PySem.W.keepIn K (.ref f4) = true)
    (a5 : PySem.W.nsIn K mainGlobals "_count_told" = some (some (.ref f5)))
    (l5 : K.lookup f5 = some ⟨oc5, od5, .func (PySem.W.fnOf "_count_told" "_count_told" (defArgs s_count_told) (defBody s_count_told) (defScope s_count_told) .none kV5 dc5 pm5 an5 cd5 ct5), sl5⟩) (c5 : PySem.W.codeIn K cd5 "_count_told" = true) (k5 : PySem.W.keepIn K (.ref f5) = true)
    (a6 : PySem.W.nsIn K mainGlobals "_read_point" = some (some (.ref f6)))
    (l6 : K.lookup f6 = some ⟨oc6, od6, .func (PySem.W.fnOf "_read_point" "_read_point" (defArgs s_read_point) (defBody s_read_point) (defScope s_read_point) .none kV6 dc6 pm6 an6 cd6 ct6), sl6⟩) (c6 : PySem.W.codeIn K cd6 "_read_point" = true) (k6 : PySem.W.keepIn K (.ref f6) = true)
    (a7 : PySem.W.nsIn K mainGlobals "_law_is_integer" = some (some (.ref f7)))
    (l7 : K.lookup f7 = some ⟨oc7, od7, .func (PySem.W.fnOf "_law_is_integer" "_law_is_integer" (defArgs s_law_is_integer) (defBody s_law_is_integer) (defScope s_law_is_integer) .none kV7 dc7 pm7 an7 cd7 ct7), sl7⟩) (c7 : PySem.W.codeIn K cd7 "_law_is_integer" = true) (k7 : PySem.W.keepIn K (.ref f7) = true)
    (a8 : PySem.W.nsIn K mainGlobals "_law_refill" = some (some (.ref f8)))
    (l8 : K.lookup f8 = some ⟨oc8, od8, .func (PySem.W.fnOf "_law_refill" "_law_refill" (defArgs s_law_refill) (defBody s_law_refill) (defScope s_law_refill) .none kV8 dc8 pm8 an8 cd8 ct8), sl8⟩) (c8 : PySem.W.codeIn K cd8 "_law_refill" = true) (k8 : PySem.W.keepIn K (.ref f8) = true)
    (a9 : PySem.W.nsIn K mainGlobals "_law_draw" = some (some (.ref f9)))
    (l9 : K.lookup f9 = some ⟨oc9, od9, .func (PySem.W.fnOf "_law_draw" "_law_draw" (defArgs s_law_draw) (defBody s_law_draw) (defScope s_law_draw) .none kV9 dc9 pm9 an9 cd9 ct9), sl9⟩) (c9 : PySem.W.codeIn K cd9 "_law_draw" = true) (k9 : PySem.W.keepIn K (.ref f9) = true)
    (a10 : PySem.W.nsIn K mainGlobals "_law_junk" = some (some (.ref f10)))
    (l10 : K.lookup f10 = some ⟨oc10, od10, .func (PySem.W.fnOf "_law_junk" "_law_junk" (defArgs s_law_junk) (defBody s_law_junk) (defScope s_law_junk) .none kV10 dc10 pm10 an10 cd10 ct10), sl10⟩) (c10 : PySem.W.codeIn K cd10 "_law_junk" = true) (k10 : PySem.W.keepIn K (.ref f10) = true)
    (a11 : PySem.W.nsIn K mainGlobals "_law_piece" = some (some (.ref f11)))
    (l11 : K.lookup f11 = some ⟨oc11, od11, .func (PySem.W.fnOf "_law_piece" "_law_piece" (defArgs s_law_piece) (defBody s_law_piece) (defScope s_law_piece) .none kV11 dc11 pm11 an11 cd11 ct11), sl11⟩) (c11 : PySem.W.codeIn K cd11 "_law_piece" = true) (k11 : PySem.W.keepIn K (.ref f11) = true)
    (a12 : PySem.W.nsIn K mainGlobals "_law_length" = some (some (.ref f12)))
    (l12 : K.lookup f12 = some ⟨oc12, od12, .func (PySem.W.fnOf "_law_length" "_law_length" (defArgs s_law_length) (defBody s_law_length) (defScope s_law_length) .none kV12 dc12 pm12 an12 cd12 ct12), sl12⟩) (c12 : PySem.W.codeIn K cd12 "_law_length" = true) (k12 : PySem.W.keepIn K (.ref f12) = true)
    (a13 : PySem.W.nsIn K mainGlobals "_law_sequence" = some (some (.ref f13)))
    (l13 : K.lookup f13 = some ⟨oc13, od13, .func (PySem.W.fnOf "_law_sequence" "_law_sequence" (defArgs s_law_sequence) (defBody s_law_sequence) (defScope s_law_sequence) .none kV13 dc13 pm13 an13 cd13 ct13), sl13⟩) (c13 : PySem.W.codeIn K cd13 "_law_sequence" = true) (k13 : PySem.W.keepIn K (.ref f13) = true)
    (a14 : PySem.W.nsIn K mainGlobals "_law_expected" = some (some (.ref f14)))
    (l14 : K.lookup f14 = some ⟨oc14, od14, .func (PySem.W.fnOf "_law_expected" "_law_expected" (defArgs s_law_expected) (defBody s_law_expected) (defScope s_law_expected) .none kV14 dc14 pm14 an14 cd14 ct14), sl14⟩) (c14 : PySem.W.codeIn K cd14 "_law_expected" = true) (k14 : PySem.W.keepIn K (.ref f14) = true)
    (a15 : PySem.W.nsIn K mainGlobals "_law_outcome" = some (some (.ref f15)))
    (l15 : K.lookup f15 = some ⟨oc15, od15, .func (PySem.W.fnOf "_law_outcome" "_law_outcome" (defArgs s_law_outcome) (defBody s_law_outcome) (defScope s_law_outcome) .none kV15 dc15 pm15 an15 cd15 ct15), sl15⟩) (c15 : PySem.W.codeIn K cd15 "_law_outcome" = true) (k15 : PySem.W.keepIn K (.ref f15) = true)
    (a16 : PySem.W.nsIn K mainGlobals "law" = some (some (.ref f16)))
    (l16 : K.lookup f16 = some ⟨oc16, od16, .func (PySem.W.fnOf "law" "law" (defArgs s_law) (defBody s_law) (defScope s_law) .none kV16 dc16 pm16 an16 cd16 ct16), sl16⟩) (c16 : PySem.W.codeIn K cd16 "law" = true) (k16 : PySem.W.keepIn K (.ref f16) = true)
    (aC_MonochordError : PySem.W.nsIn K mainGlobals "MonochordError" = some (some (.ref C_MonochordError)))
    (xl_MonochordError : K.lookup C_MonochordError = some (excClassObj xn_MonochordError xq_MonochordError C_MonochordError xN_MonochordError xb_MonochordError [.type "ValueError", .type "Exception", .type "BaseException", .type "object"] true xs_MonochordError xu_MonochordError xa_MonochordError xc_MonochordError xd_MonochordError xj0_MonochordError xj1_MonochordError (some (.str "MonochordError" xt_MonochordError)) xj3_MonochordError xj5_MonochordError "ValueError.__new__")) (xsa_MonochordError : PySem.W.findIn K (.ref C_MonochordError) "__setattr__" = some (some (.builtin "object.__setattr__"))) (xty_MonochordError : PySem.W.typeIn K (.ref C_MonochordError) = some (.type "type")) (xkc_MonochordError : PySem.W.keepIn K (.ref C_MonochordError) = true) (xic_MonochordError : PySem.W.findIn K (.ref C_MonochordError) "__init__" = some (some (.ref f1))) (xnp_MonochordError : PySem.W.findIn K (.ref C_MonochordError) "place" = some none) (xnn_MonochordError : PySem.W.findIn K (.ref C_MonochordError) "name" = some none) (xhg_MonochordError : PySem.W.findIn K (.ref C_MonochordError) "__getattribute__" = some (some (.builtin "BaseException.__getattribute__"))) (xhk_MonochordError : PySem.W.findIn K (.ref C_MonochordError) "__getattr__" = some none) (xhs_MonochordError : PySem.W.subIn K (.ref C_MonochordError) (.type "BaseException") = some true) (xhd_MonochordError : PySem.W.hasDictIn K C_MonochordError = true) (xha_MonochordError : PySem.W.findIn K (.ref C_MonochordError) "__class__" = some (some (.builtin "object.__class__"))) (xhn_MonochordError : PySem.W.specialIn K (.builtin "object.__class__") "__get__" = some (some (.builtin "getset_descriptor.__get__"))) (xht_MonochordError : PySem.W.takesIn K (.builtin "object.__class__") = some true) (xhm_MonochordError : PySem.W.mroIn K C_MonochordError (.type "object") = some true) (xrd_MonochordError : PySem.W.readsIn K C_MonochordError (.type "type") = true) (xfc_MonochordError : PySem.W.findCls K (.ref C_MonochordError) (.type "type") "__name__" = some (.get (.builtin "getset_descriptor.__get__") (.builtin "type.__name__") (.ref C_MonochordError) (.type "type")))
    (aC_InvalidText : PySem.W.nsIn K mainGlobals "InvalidText" = some (some (.ref C_InvalidText)))
    (xl_InvalidText : K.lookup C_InvalidText = some (excClassObj xn_InvalidText xq_InvalidText C_InvalidText xN_InvalidText xb_InvalidText [.ref C_MonochordError, .type "ValueError", .type "Exception", .type "BaseException", .type "object"] true xs_InvalidText xu_InvalidText xa_InvalidText xc_InvalidText xd_InvalidText xj0_InvalidText xj1_InvalidText (some (.str "InvalidText" xt_InvalidText)) xj3_InvalidText xj5_InvalidText "ValueError.__new__")) (xsa_InvalidText : PySem.W.findIn K (.ref C_InvalidText) "__setattr__" = some (some (.builtin "object.__setattr__"))) (xty_InvalidText : PySem.W.typeIn K (.ref C_InvalidText) = some (.type "type")) (xkc_InvalidText : PySem.W.keepIn K (.ref C_InvalidText) = true) (xic_InvalidText : PySem.W.findIn K (.ref C_InvalidText) "__init__" = some (some (.ref f1))) (xnp_InvalidText : PySem.W.findIn K (.ref C_InvalidText) "place" = some none) (xnn_InvalidText : PySem.W.findIn K (.ref C_InvalidText) "name" = some none) (xhg_InvalidText : PySem.W.findIn K (.ref C_InvalidText) "__getattribute__" = some (some (.builtin "BaseException.__getattribute__"))) (xhk_InvalidText : PySem.W.findIn K (.ref C_InvalidText) "__getattr__" = some none) (xhs_InvalidText : PySem.W.subIn K (.ref C_InvalidText) (.type "BaseException") = some true) (xhd_InvalidText : PySem.W.hasDictIn K C_InvalidText = true) (xha_InvalidText : PySem.W.findIn K (.ref C_InvalidText) "__class__" = some (some (.builtin "object.__class__"))) (xhn_InvalidText : PySem.W.specialIn K (.builtin "object.__class__") "__get__" = some (some (.builtin "getset_descriptor.__get__"))) (xht_InvalidText : PySem.W.takesIn K (.builtin "object.__class__") = some true) (xhm_InvalidText : PySem.W.mroIn K C_InvalidText (.type "object") = some true) (xrd_InvalidText : PySem.W.readsIn K C_InvalidText (.type "type") = true) (xfc_InvalidText : PySem.W.findCls K (.ref C_InvalidText) (.type "type") "__name__" = some (.get (.builtin "getset_descriptor.__get__") (.builtin "type.__name__") (.ref C_InvalidText) (.type "type")))
    (xti : PySem.W.typeIn K (.ref f1) = some (.type "function"))
    (xsv_MonochordError : PySem.W.subIn K (.ref C_MonochordError) (.type "ValueError") = some true)
    (xsu_MonochordError_MonochordError : PySem.W.subIn K (.ref C_MonochordError) (.ref C_MonochordError) = some true)
    (xsu_MonochordError_InvalidText : PySem.W.subIn K (.ref C_MonochordError) (.ref C_InvalidText) = some false)
    (xsv_InvalidText : PySem.W.subIn K (.ref C_InvalidText) (.type "ValueError") = some true)
    (xsu_InvalidText_MonochordError : PySem.W.subIn K (.ref C_InvalidText) (.ref C_MonochordError) = some true)
    (xsu_InvalidText_InvalidText : PySem.W.subIn K (.ref C_InvalidText) (.ref C_InvalidText) = some true)
    (z_isinstance : PySem.W.nsIn K mainGlobals "isinstance" = some none)
    (z_int : PySem.W.nsIn K mainGlobals "int" = some none)
    (z_bool : PySem.W.nsIn K mainGlobals "bool" = some none)
    (z_len : PySem.W.nsIn K mainGlobals "len" = some none)
    (z_range : PySem.W.nsIn K mainGlobals "range" = some none)
    (z_all : PySem.W.nsIn K mainGlobals "all" = some none)
    (z_ValueError : PySem.W.nsIn K mainGlobals "ValueError" = some none)
    : ∃ fd : FuncData, (∀ (s : Shared) (v : Value), BindsTo s fd ⟨[v], []⟩ [("script", v)]) ∧ ∀ base : Heap, K.In base → base.Ns mainGlobals mg → FnOk l.prog w K mg base CX0 6 fa fd ["script"] (sp_law K) := by
  have e := hfa.symm.trans (PySem.W.mg_of X G a16)
  cases e
  have F1 := fun_mk (st := s_MonochordError_init) l1 c1 k1
  have b1 := F1.binds (ps := ["self", "place"]) fun _ _ _ _ _ _ us hl => match us, hl with | [_, _], _ => rfl
  have F2 := fun_mk (st := s_read_utf8) l2 c2 k2
  have b2 := F2.binds (ps := ["data", "start", "stop"]) fun _ _ _ _ _ _ us hl => match us, hl with | [_, _, _], _ => rfl
  have F3 := fun_mk (st := s_point_count) l3 c3 k3
  have b3 := F3.binds (ps := ["point"]) fun _ _ _ _ _ _ us hl => match us, hl with | [_], _ => rfl
  have F4 := fun_mk (st := s_least_first) l4 c4 k4
  have b4 := F4.binds (ps := ["count"]) fun _ _ _ _ _ _ us hl => match us, hl with | [_], _ => rfl
  have F5 := fun_mk (st := s_count_told) l5 c5 k5
  have b5 := F5.binds (ps := ["first"]) fun _ _ _ _ _ _ us hl => match us, hl with | [_], _ => rfl
  have F6 := fun_mk (st := s_read_point) l6 c6 k6
  have b6 := F6.binds (ps := ["data", "place", "count"]) fun _ _ _ _ _ _ us hl => match us, hl with | [_, _, _], _ => rfl
  have F7 := fun_mk (st := s_law_is_integer) l7 c7 k7
  have b7 := F7.binds (ps := ["actual"]) fun _ _ _ _ _ _ us hl => match us, hl with | [_], _ => rfl
  have F8 := fun_mk (st := s_law_refill) l8 c8 k8
  have b8 := F8.binds (ps := ["script", "k"]) fun _ _ _ _ _ _ us hl => match us, hl with | [_, _], _ => rfl
  have F9 := fun_mk (st := s_law_draw) l9 c9 k9
  have b9 := F9.binds (ps := ["state", "script", "size"]) fun _ _ _ _ _ _ us hl => match us, hl with | [_, _, _], _ => rfl
  have F10 := fun_mk (st := s_law_junk) l10 c10 k10
  have b10 := F10.binds (ps := ["state", "script", "count"]) fun _ _ _ _ _ _ us hl => match us, hl with | [_, _, _], _ => rfl
  have F11 := fun_mk (st := s_law_piece) l11 c11 k11
  have b11 := F11.binds (ps := ["state", "script"]) fun _ _ _ _ _ _ us hl => match us, hl with | [_, _], _ => rfl
  have F12 := fun_mk (st := s_law_length) l12 c12 k12
  have b12 := F12.binds (ps := ["first"]) fun _ _ _ _ _ _ us hl => match us, hl with | [_], _ => rfl
  have F13 := fun_mk (st := s_law_sequence) l13 c13 k13
  have b13 := F13.binds (ps := ["data", "at", "stop"]) fun _ _ _ _ _ _ us hl => match us, hl with | [_, _, _], _ => rfl
  have F14 := fun_mk (st := s_law_expected) l14 c14 k14
  have b14 := F14.binds (ps := ["data", "start", "stop"]) fun _ _ _ _ _ _ us hl => match us, hl with | [_, _, _], _ => rfl
  have F15 := fun_mk (st := s_law_outcome) l15 c15 k15
  have b15 := F15.binds (ps := ["data", "start", "stop"]) fun _ _ _ _ _ _ us hl => match us, hl with | [_, _, _], _ => rfl
  have F16 := fun_mk (st := s_law) l16 c16 k16
  have b16 := F16.binds (ps := ["script"]) fun _ _ _ _ _ _ us hl => match us, hl with | [_], _ => rfl
  let T : TX K mg := ⟨f1, _, F1, b1, f2, _, F2, b2, (PySem.W.mg_of X G a2), f3, _, F3, b3, (PySem.W.mg_of X G a3), f4, _, F4, b4, (PySem.W.mg_of X G a4), f5, _, F5, b5, (PySem.W.mg_of X G a5), f6, _, F6, b6, (PySem.W.mg_of X G a6), f7, _, F7, b7, (PySem.W.mg_of X G a7), f8, _, F8, b8, (PySem.W.mg_of X G a8), f9, _, F9, b9, (PySem.W.mg_of X G a9), f10, _, F10, b10, (PySem.W.mg_of X G a10), f11, _, F11, b11, (PySem.W.mg_of X G a11), f12, _, F12, b12, (PySem.W.mg_of X G a12), f13, _, F13, b13, (PySem.W.mg_of X G a13), f14, _, F14, b14, (PySem.W.mg_of X G a14), f15, _, F15, b15, (PySem.W.mg_of X G a15), fa, _, F16, b16, (PySem.W.mg_of X G a16), C_MonochordError, (PySem.W.mg_of X G aC_MonochordError), ⟨⟨_, _, _, _, _, _, _, _, _, _, _, _, _, _, _, xl_MonochordError, rfl⟩, xsa_MonochordError, xty_MonochordError, xkc_MonochordError, xic_MonochordError, xnp_MonochordError, xnn_MonochordError, ⟨xhg_MonochordError, xhk_MonochordError, xhs_MonochordError, xhd_MonochordError, xha_MonochordError, xhn_MonochordError, xht_MonochordError, xhm_MonochordError⟩, xrd_MonochordError, xfc_MonochordError⟩, C_InvalidText, (PySem.W.mg_of X G aC_InvalidText), ⟨⟨_, _, _, _, _, _, _, _, _, _, _, _, _, _, _, xl_InvalidText, rfl⟩, xsa_InvalidText, xty_InvalidText, xkc_InvalidText, xic_InvalidText, xnp_InvalidText, xnn_InvalidText, ⟨xhg_InvalidText, xhk_InvalidText, xhs_InvalidText, xhd_InvalidText, xha_InvalidText, xhn_InvalidText, xht_InvalidText, xhm_InvalidText⟩, xrd_InvalidText, xfc_InvalidText⟩, xti, xsv_MonochordError, xsu_MonochordError_MonochordError, xsu_MonochordError_InvalidText, xsv_InvalidText, xsu_InvalidText_MonochordError, xsu_InvalidText_InvalidText, (PySem.W.mg_none_of X G z_isinstance), (PySem.W.mg_none_of X G z_int), (PySem.W.mg_none_of X G z_bool), (PySem.W.mg_none_of X G z_len), (PySem.W.mg_none_of X G z_range), (PySem.W.mg_none_of X G z_all), (PySem.W.mg_none_of X G z_ValueError)⟩
  exact ⟨_, fun s v => .of_eq rfl, fun base _ _ => ok_law T⟩
end K49
open PySem PySem.W PyProof.Rows
set_option maxRecDepth 100000 in
set_option maxHeartbeats 0 in
theorem PySem.Challenge.cw_monochord_k49_text_faults_holds : PySem.Challenge.rw_monochord_k49_text_faults.Holds := by
  w_on; o_law; k_head; (case hw => w_witness2)
  k_fill
  refine L2.walk_of (l := PySem.Challenge.rw_monochord_k49_text_faults) (n := 63) (k := 6) (x := "script") (CX := fun _ => L2.CX0) (sp := fun w => K49.sp_law _) rfl (by decide) rfl ⟨rfl, by decide, by decide⟩ (fun w h Y => PySem.W.kIn_of Y) ?F (fun _ _ a ns hl _ hS => ⟨a, ns, rfl, hS, hl, fun _ => rfl⟩) (fun _ _ _ _ _ h => h)
  case F =>
    intro w mg fa h KX G hmg
    refine' K49.all_mk KX G hmg ?a1 ?i1 ?l1 ?c1 ?k1 ?a2 ?l2 ?c2 ?k2 ?a3 ?l3 ?c3 ?k3 ?a4 ?l4 ?c4 ?k4 ?a5 ?l5 ?c5 ?k5 ?a6 ?l6 ?c6 ?k6 ?a7 ?l7 ?c7 ?k7 ?a8 ?l8 ?c8 ?k8 ?a9 ?l9 ?c9 ?k9 ?a10 ?l10 ?c10 ?k10 ?a11 ?l11 ?c11 ?k11 ?a12 ?l12 ?c12 ?k12 ?a13 ?l13 ?c13 ?k13 ?a14 ?l14 ?c14 ?k14 ?a15 ?l15 ?c15 ?k15 ?a16 ?l16 ?c16 ?k16 ?aC_MonochordError ?xl_MonochordError ?xsa_MonochordError ?xty_MonochordError ?xkc_MonochordError ?xic_MonochordError ?xnp_MonochordError ?xnn_MonochordError ?xhg_MonochordError ?xhk_MonochordError ?xhs_MonochordError ?xhd_MonochordError ?xha_MonochordError ?xhn_MonochordError ?xht_MonochordError ?xhm_MonochordError ?xrd_MonochordError ?xfc_MonochordError ?aC_InvalidText ?xl_InvalidText ?xsa_InvalidText ?xty_InvalidText ?xkc_InvalidText ?xic_InvalidText ?xnp_InvalidText ?xnn_InvalidText ?xhg_InvalidText ?xhk_InvalidText ?xhs_InvalidText ?xhd_InvalidText ?xha_InvalidText ?xhn_InvalidText ?xht_InvalidText ?xhm_InvalidText ?xrd_InvalidText ?xfc_InvalidText ?xti ?xsv_MonochordError ?xsu_MonochordError_MonochordError ?xsu_MonochordError_InvalidText ?xsv_InvalidText ?xsu_InvalidText_MonochordError ?xsu_InvalidText_InvalidText ?z_isinstance ?z_int ?z_bool ?z_len ?z_range ?z_all ?z_ValueError
    (case aC_MonochordError => k_is)
    (case aC_InvalidText => k_is)
    (case a1 => k_is)
    (case i1 => k_is)
    (case l1 => k_is)
    (case c1 => k_is)
    (case k1 => k_is)
    (case a2 => k_is)
    (case l2 => k_is)
    (case c2 => k_is)
    (case k2 => k_is)
    (case a3 => k_is)
    (case l3 => k_is)
    (case c3 => k_is)
    (case k3 => k_is)
    (case a4 => k_is)
    (case l4 => k_is)
    (case c4 => k_is)
    (case k4 => k_is)
    (case a5 => k_is)
    (case l5 => k_is)
    (case c5 => k_is)
    (case k5 => k_is)
    (case a6 => k_is)
    (case l6 => k_is)
    (case c6 => k_is)
    (case k6 => k_is)
    (case a7 => k_is)
    (case l7 => k_is)
    (case c7 => k_is)
    (case k7 => k_is)
    (case a8 => k_is)
    (case l8 => k_is)
    (case c8 => k_is)
    (case k8 => k_is)
    (case a9 => k_is)
    (case l9 => k_is)
    (case c9 => k_is)
    (case k9 => k_is)
    (case a10 => k_is)
    (case l10 => k_is)
    (case c10 => k_is)
    (case k10 => k_is)
    (case a11 => k_is)
    (case l11 => k_is)
    (case c11 => k_is)
    (case k11 => k_is)
    (case a12 => k_is)
    (case l12 => k_is)
    (case c12 => k_is)
    (case k12 => k_is)
    (case a13 => k_is)
    (case l13 => k_is)
    (case c13 => k_is)
    (case k13 => k_is)
    (case a14 => k_is)
    (case l14 => k_is)
    (case c14 => k_is)
    (case k14 => k_is)
    (case a15 => k_is)
    (case l15 => k_is)
    (case c15 => k_is)
    (case k15 => k_is)
    (case a16 => k_is)
    (case l16 => k_is)
    (case c16 => k_is)
    (case k16 => k_is)
    (case xl_MonochordError => k_is)
    (case xsa_MonochordError => k_is)
    (case xty_MonochordError => k_is)
    (case xkc_MonochordError => k_is)
    (case xic_MonochordError => k_is)
    (case xnp_MonochordError => k_is)
    (case xnn_MonochordError => k_is)
    (case xhg_MonochordError => k_is)
    (case xhk_MonochordError => k_is)
    (case xhs_MonochordError => k_is)
    (case xhd_MonochordError => k_is)
    (case xha_MonochordError => k_is)
    (case xhn_MonochordError => k_is)
    (case xht_MonochordError => k_is)
    (case xhm_MonochordError => k_is)
    (case xrd_MonochordError => k_is)
    (case xfc_MonochordError => k_is)
    (case xl_InvalidText => k_is)
    (case xsa_InvalidText => k_is)
    (case xty_InvalidText => k_is)
    (case xkc_InvalidText => k_is)
    (case xic_InvalidText => k_is)
    (case xnp_InvalidText => k_is)
    (case xnn_InvalidText => k_is)
    (case xhg_InvalidText => k_is)
    (case xhk_InvalidText => k_is)
    (case xhs_InvalidText => k_is)
    (case xhd_InvalidText => k_is)
    (case xha_InvalidText => k_is)
    (case xhn_InvalidText => k_is)
    (case xht_InvalidText => k_is)
    (case xhm_InvalidText => k_is)
    (case xrd_InvalidText => k_is)
    (case xfc_InvalidText => k_is)
    (case xti => k_is)
    (case xsv_MonochordError => k_is)
    (case xsu_MonochordError_MonochordError => k_is)
    (case xsu_MonochordError_InvalidText => k_is)
    (case xsv_InvalidText => k_is)
    (case xsu_InvalidText_MonochordError => k_is)
    (case xsu_InvalidText_InvalidText => k_is)
    (case z_isinstance => k_is)
    (case z_int => k_is)
    (case z_bool => k_is)
    (case z_len => k_is)
    (case z_range => k_is)
    (case z_all => k_is)
    (case z_ValueError => k_is)
