import PyProof.Rows.All
import Wide.All
import OpenK.AllK
import Wide.FinOn
import HandS.ForMost
import HandS.Steps
import HandS.Evl
import HandS.IsInst
import HandS.Defaults
import HandS.MakeKwOnly
import HandS.Wide
import HandS.Walk
import HandS.TryOnly
import HandS.Text
import PyProof.P3Eq
import HandS.ForExc
import HandS.ExcInit
import HandS.ExcIs
import HandS.ExcField
import HandS.ExcOwn
import HandS.ExcBuiltin
import HandS.ExcCtx
import HandS.HotCalls
import HandS.WordsExc
import KE.KTypeName
import HandS.OwnEq
import HandS.WideBits
import HandS.TupAny
import PySem.Challenge.RW_monochord_k51_comment_faults
set_option Elab.async false
set_option linter.all false
set_option maxRecDepth 100000
set_option maxHeartbeats 4000000
/-! ### own errors: the class's name, an error's class, its fields, isinstance -/
namespace PySem
namespace ExqW
open PySem.W PySem.Calls PyProof.Rows Builtin Builtin.ObjectAttr Builtin.Getset_descriptor
section
variable {prog : Program} {w : World} {A : Around} {E : Value → Shared → Prop} {s : Shared} {K : Frag} {x D C : Addr} {ox : Obj} {R : Result → Shared → Prop}
theorem exq_class {od : Option Obj} {expr : Bool} {Q : Value → Shared → Prop} (hga : findIn K (.ref D) "__getattribute__" = some (some (.builtin "BaseException.__getattribute__"))) (hgt : findIn K (.ref D) "__getattr__" = some none) (hsub : subIn K (.ref D) (.type "BaseException") = some true)
    (hf : findObj K D od "__class__" = some (.bind (.builtin "getset_descriptor.__get__") (.builtin "object.__class__"))) (hm : mroIn K D (.type "object") = some true)
    (X : K.In s.heap) (I : InstAt s.heap x ox D od) (h : Q (.ref D) { s with toks := s.toks + 1 }) : wpAny (model prog w) A (getAttr (.ref x) "__class__" expr) Q E s := by
  obtain ⟨hp, g, d, t, os⟩ := s
  have L0 := I.type (M := model prog w)
  have L1 := looks_findIn (M := model prog w) X hga
  have L2 := looks_findIn (M := model prog w) X hgt
  have L3 := looks_find (M := model prog w) X I hf
  have sub : Looks (model prog w) hp (isInstance (.ref x) (.type "BaseException")) true := L0.andThen (looks_subIn X hsub)
  have hx0 : (expr && onTheHeap (Value.builtin "BaseException.__getattribute__")) = false := by cases expr <;> rfl
  have hx2 : (Value.builtin "BaseException.__getattribute__" == Value.builtin "object.__getattribute__") = false := by decide +kernel
  have hx1 : (onTheHeap (Value.ref D) && Value.builtin "BaseException.__getattribute__" == Value.builtin "object.__getattribute__") = false := by rw [hx2]; rfl
  unfold getAttr getAttrBy
  refine wpAny_bind (wpAny_mkText (wpAny_holding (wpAny_bind (L0.at (wpAny_bind (L1.at ?_))))))
  show wpAny _ _ (if (onTheHeap (Value.ref D) && Value.builtin "BaseException.__getattribute__" == Value.builtin "object.__getattribute__") = true then _ else _) _ _ _
  rw [hx1, if_neg Bool.false_ne_true]
  unfold getAttrByItsOwn hookBefore
  refine wpAny_bind ?_
  rw [if_pos (show onTheHeap (Value.ref D) = true from rfl)]
  refine L2.at ?_
  refine wpAny_bind (wpAny_attempt (wpAny_holding ?_))
  unfold callGetattribute
  rw [hx0, if_neg Bool.false_ne_true]
  unfold boundAndCalled
  rw [PySem.F.excAttr_ValueError.ga.bind (.ref x)]
  refine wpAny_bind (wpAny_pure ?_)
  show wpAny _ _ (call (.builtin "BaseException.__getattribute__") [.ref x, .str "__class__" t]) _ _ _
  refine wpAny_call (codeAny_call_builtin PySem.F.excAttr_ValueError.ga.plain PySem.F.entry_bexc_ga ?_)
  refine @check_slot (model prog w) _ _ ⟨hp, g, d, t + 1, os⟩ "BaseException.__getattribute__" "BaseException" "__getattribute__" (.ref x) [.str "__class__" t] [] _ (by decide +kernel) (by decide +kernel) sub (PySem.F.args_bexc_ga (.ref x) (.str "__class__" t)) ?_
  unfold Builtin.«object.__getattribute__»
  refine wpAny_bind (wpAny_of_eq (a := ((Value.ref x : Value), [Value.str "__class__" t])) (by first | rfl | (simp only [slotArgs]; rfl)) ?_)
  refine wpAny_bind (wpAny_pure (wpAny_bind (L0.at (wpAny_bind (L3.at ?_)))))
  show wpAny _ _ (holding [Value.builtin "object.__class__"] (call (.builtin "getset_descriptor.__get__") [.builtin "object.__class__", .ref x, .ref D]) >>= ret) _ _ _
  refine wpAny_bind (wpAny_holding (wpAny_call (class_get (s := ⟨hp, g, d, t + 1, os⟩) (ox := ox) (od := od) X I hm ?_)))
  refine wpAny_pure ?_
  show wpAny _ _ (handedOut (.ref D)) _ _ _
  rw [handedOut_of (v := .ref D) rfl]
  first
    | exact wpAny_pure (wpAny_pure h)
    | exact wpAny_pure h
    | exact wpAny_pure (wpAny_bind (wpAny_pure (wpAny_pure h)))
theorem exq_classQ {od : Option Obj} {Q : Option Value → Shared → Prop} (hga : findIn K (.ref D) "__getattribute__" = some (some (.builtin "BaseException.__getattribute__"))) (hgt : findIn K (.ref D) "__getattr__" = some none) (hsub : subIn K (.ref D) (.type "BaseException") = some true)
    (hf : findObj K D od "__class__" = some (.bind (.builtin "getset_descriptor.__get__") (.builtin "object.__class__"))) (hm : mroIn K D (.type "object") = some true)
    (X : K.In s.heap) (I : InstAt s.heap x ox D od) (h : Q (some (.ref D)) { s with toks := s.toks + 1 }) : wpAny (model prog w) A (getAttr? (.ref x) "__class__") Q E s := by
  obtain ⟨hp, g, d, t, os⟩ := s
  have L0 := I.type (M := model prog w)
  have L1 := looks_findIn (M := model prog w) X hga
  have L2 := looks_findIn (M := model prog w) X hgt
  have L3 := looks_find (M := model prog w) X I hf
  have sub : Looks (model prog w) hp (isInstance (.ref x) (.type "BaseException")) true := L0.andThen (looks_subIn X hsub)
  have hx0 : (false && onTheHeap (Value.builtin "BaseException.__getattribute__")) = false := rfl
  have hx2 : (Value.builtin "BaseException.__getattribute__" == Value.builtin "object.__getattribute__") = false := by decide +kernel
  have hx1 : (onTheHeap (Value.ref D) && Value.builtin "BaseException.__getattribute__" == Value.builtin "object.__getattribute__") = false := by rw [hx2]; rfl
  unfold getAttr? getAttrBy? getAttrBy
  refine wpAny_bind (wpAny_mkText (wpAny_bind (wpAny_attempt (wpAny_holding (wpAny_bind (L0.at (wpAny_bind (L1.at ?_))))))))
  show wpAny _ _ (if (onTheHeap (Value.ref D) && Value.builtin "BaseException.__getattribute__" == Value.builtin "object.__getattribute__") = true then _ else _) _ _ _
  rw [hx1, if_neg Bool.false_ne_true]
  unfold getAttrByItsOwn hookBefore
  refine wpAny_bind ?_
  rw [if_pos (show onTheHeap (Value.ref D) = true from rfl)]
  refine L2.at ?_
  refine wpAny_bind (wpAny_attempt (wpAny_holding ?_))
  unfold callGetattribute
  rw [hx0, if_neg Bool.false_ne_true]
  unfold boundAndCalled
  rw [PySem.F.excAttr_ValueError.ga.bind (.ref x)]
  refine wpAny_bind (wpAny_pure ?_)
  show wpAny _ _ (call (.builtin "BaseException.__getattribute__") [.ref x, .str "__class__" t]) _ _ _
  refine wpAny_call (codeAny_call_builtin PySem.F.excAttr_ValueError.ga.plain PySem.F.entry_bexc_ga ?_)
  refine @check_slot (model prog w) _ _ ⟨hp, g, d, t + 1, os⟩ "BaseException.__getattribute__" "BaseException" "__getattribute__" (.ref x) [.str "__class__" t] [] _ (by decide +kernel) (by decide +kernel) sub (PySem.F.args_bexc_ga (.ref x) (.str "__class__" t)) ?_
  unfold Builtin.«object.__getattribute__»
  refine wpAny_bind (wpAny_of_eq (a := ((Value.ref x : Value), [Value.str "__class__" t])) (by first | rfl | (simp only [slotArgs]; rfl)) ?_)
  refine wpAny_bind (wpAny_pure (wpAny_bind (L0.at (wpAny_bind (L3.at ?_)))))
  show wpAny _ _ (holding [Value.builtin "object.__class__"] (call (.builtin "getset_descriptor.__get__") [.builtin "object.__class__", .ref x, .ref D]) >>= ret) _ _ _
  refine wpAny_bind (wpAny_holding (wpAny_call (class_get (s := ⟨hp, g, d, t + 1, os⟩) (ox := ox) (od := od) X I hm ?_)))
  refine wpAny_pure ?_
  show wpAny _ _ (handedOut (.ref D)) _ _ _
  rw [handedOut_of (v := .ref D) rfl]
  first
    | exact wpAny_pure (wpAny_pure h)
    | exact wpAny_pure h
    | exact wpAny_pure (wpAny_bind (wpAny_pure (wpAny_pure h)))
theorem exq_dga (d tp : Value) (C : Addr) : descrGetArgs ⟨[d, .ref C, tp], []⟩ = pure (d, some (.ref C), given tp) := by kernel_rfl
theorem exq_name_get {tp v : Value} {oC : Obj} (X : K.In s.heap) (ht : typeIn K (.ref C) = some (.type "type")) (hC : K.lookup C = some oC) (hv : (oC.slots[2]?).join = some v) (h : R (.ok (.ret v)) s) :
    codeAny (model prog w) A (.call (.builtin "getset_descriptor.__get__") ⟨[.builtin "type.__name__", .ref C, tp], []⟩) R s := by
  obtain ⟨hh, g, dr, t, os⟩ := s
  have L0 : Looks (model prog w) hh (typeOf (.ref C)) (.type "type") := looks_typeIn X ht
  have L1 : Looks (model prog w) hh (isSubtype (.type "type") (.type "type")) true := Looks.of_pure (by rw [isSubtype_type]; kernel_rfl)
  refine codeAny_call_builtin KF.slot_gs.plain KF.entry_gs (KF.slot_gs.check _ _ _ _ _ _ _ _ ktyn_type (KF.args_gs _ _ _) ?_)
  unfold Builtin.«getset_descriptor.__get__» descrGet
  rw [exq_dga]
  refine wpAny_bind (wpAny_pure ?_)
  unfold descrGetter descrCheckInstance descrNameAndClass isInstance
  simp only [ktyn_owner]
  repeat lk
  refine ⟨Code.quiet_builtin _ (by decide +kernel), codeAny_builtin ktyn_entry ?_⟩
  unfold Builtin.«type.__name__»
  dsimp only
  unfold Builtin.keptObject slotAt
  dsimp only
  refine wpAny_bind (wpAny_bind (wpAny_loadPart (X _ _ hC) (wpAny_pure ?_)))
  rw [hv]
  dsimp only
  unfold ret
  first
    | exact wpAny_bind (wpAny_pure (wpAny_pure h))
    | exact wpAny_pure h
    | exact wpAny_bind (wpAny_pure h)
theorem exq_name {oC : Obj} {v : Value} {expr : Bool} {Q : Value → Shared → Prop} (X : K.In s.heap) (hr : readsIn K C (.type "type") = true)
    (e : findCls K (.ref C) (.type "type") "__name__" = some (.get (.builtin "getset_descriptor.__get__") (.builtin "type.__name__") (.ref C) (.type "type"))) (ht : typeIn K (.ref C) = some (.type "type")) (hC : K.lookup C = some oC) (hv : (oC.slots[2]?).join = some v) (hh : handedIn v = true)
    (h : Q v { s with toks := s.toks + 1 }) : wpAny (model prog w) A (getAttr (.ref C) "__name__" expr) Q E s :=
  cls_bind X hr e (wpAny_call (exq_name_get (s := { s with toks := s.toks + 1 }) X ht hC hv (handed_on hh h)))
theorem exq_kitx {od : Option Obj} (hga : findIn K (.ref D) "__getattribute__" = some (some (.builtin "BaseException.__getattribute__"))) (hgt : findIn K (.ref D) "__getattr__" = some none) (hsub : subIn K (.ref D) (.type "BaseException") = some true) (hdct : hasDictIn K D = true)
    (hf : findObj K D od "__class__" = some (.bind (.builtin "getset_descriptor.__get__") (.builtin "object.__class__"))) (hm : mroIn K D (.type "object") = some true) :
    KitX K (.ref x) (.ref D) (fun h => InstAt h x ox D od) where
  ty := fun _ _ _ I => I.type
  it := fun _ _ X _ => by
    obtain ⟨cdD, hcD, _⟩ := any_some hdct
    unfold clsIn at hcD
    split at hcD
    · rename_i c' d' cd' sl' ho
      intro A' Q' E' s' k q
      unfold isType loadHead
      exact wpAny_bind (wpAny_loadPart (k _ _ (X _ _ ho)) (wpAny_pure q))
    · cases hcD
  ne := fun h tp dd its n sl X htp => by
    obtain ⟨cdD, hcD, _⟩ := any_some hdct
    refine Bool.eq_false_iff.mpr fun q => ?_
    have e : D = tp := Value.ref.inj (beq_iff_eq.mp q)
    subst e
    unfold clsIn at hcD
    split at hcD
    · rename_i c' d' cd' sl' ho
      have z := (X _ _ ho).symm.trans htp
      cases z
    · cases hcD
  ca := fun X I k => exq_classQ hga hgt hsub hf hm X I k
end
end ExqW
end PySem
namespace L2
open PySem PySem.Spec PyProof.Rows
/-- what the written part says of an own error class at C (its name nm), whose __init__ stands at fI -/
structure ExK (K : PySem.W.Frag) (C fI : Addr) (nm : Str) : Prop where
  cls : ∃ n q N bs bm sn sub ab col dd k0 k1 tk k3 k5, K.lookup C = some (excClassObj n q C N bs bm true sn sub ab col dd k0 k1 (some (.str nm tk)) k3 k5 "ValueError.__new__") ∧ PySem.HandSPX.refsVE bm = true
  sa : PySem.W.findIn K (.ref C) "__setattr__" = some (some (.builtin "object.__setattr__"))
  tyC : PySem.W.typeIn K (.ref C) = some (.type "type")
  kC : PySem.W.keepIn K (.ref C) = true
  iC : PySem.W.findIn K (.ref C) "__init__" = some (some (.ref fI))
  nP : PySem.W.findIn K (.ref C) "place" = some none
  nN : PySem.W.findIn K (.ref C) "name" = some none
  ex : ExcC K C
  rd : PySem.W.readsIn K C (.type "type") = true
  fc : PySem.W.findCls K (.ref C) (.type "type") "__name__" = some (.get (.builtin "getset_descriptor.__get__") (.builtin "type.__name__") (.ref C) (.type "type"))
section
variable {K : PySem.W.Frag} {C fI : Addr} {nm : Str}
theorem ExK.ox (T : ExK K C fI nm) : OexC K C := by
  obtain ⟨n, q, N, bs, bm, sn, sub, ab, col, dd, k0, k1, tk, k3, k5, h1, h2⟩ := T.cls
  exact ⟨⟨n, q, N, bs, bm, sn, sub, ab, col, dd, k0, k1, _, k3, k5, h1, h2⟩, T.sa, T.ex.hs, T.tyC, T.kC⟩
theorem ExK.xf (T : ExK K C fI nm) : XfC K C := ⟨T.ex.hg, T.ex.hk, T.ex.hs, T.ex.hd⟩
end
theorem ExcC.fo {K : PySem.W.Frag} {C : Addr} (T : ExcC K C) (od : Obj) : PySem.W.findObj K C (some od) "__class__" = some (.bind (.builtin "getset_descriptor.__get__") (.builtin "object.__class__")) :=
  PySem.W.findObj_data (by obtain ⟨cd, hc, _⟩ := PySem.W.any_some T.hd; show (PySem.W.clsIn K C).isSome = true; rw [hc]; rfl) T.ha T.hn T.ht
/-- self.__class__.__name__ of an error that is being made -/
def tCN (K : PySem.W.Frag) (te : TE) : TE := fun σ H Q => te σ H fun x H1 => ∃ (a C dx : Addr) (fs : List (Str × V)) (fI : Addr) (nm : Str), x = .ref a ∧ ExK K C fI nm ∧ H1 a = some (exo a C (some dx)) ∧ H1 dx = some (exd dx fs) ∧ Q (.str nm) H1
theorem pe_clsname {X : Cx} {o : Expr} {te : TE} {p1 p2 : Pos} (he : PE X o te) (hb1 : attributeBase o "__class__" X.env (eval o X.env) = eval o X.env := by rfl)
    (hb2 : attributeBase (.Attribute o "__class__" p1) "__name__" X.env (eval (.Attribute o "__class__" p1) X.env) = eval (.Attribute o "__class__" p1) X.env := by rfl) :
    PE X (.Attribute (.Attribute o "__class__" p1) "__name__" p2) (tCN X.K te) := by
  refine ⟨fun pins s σ H Q I h => ?_⟩
  refine attr_of hb2 (attr_of hb1 (thn (he.run pins s σ H _ I h) fun u s1 ⟨x, H1, I1, rx, a, C, dx, fs, fI, nm, ex, T, ea, ed, q⟩ => ?_))
  subst ex
  obtain rfl : u = Value.ref a := rx
  obtain ⟨t1, ho⟩ := exo_at I1.hok ea
  obtain ⟨mA, hns, rel⟩ := exd_at I1.hok ed
  obtain ⟨oD, _, _, hoD, _, _⟩ := id hns
  have J : PySem.W.InstAt s1.heap a { cls := .ref C, dict := some dx, data := .fields #[.ref t1, .none, .none, .none, .bool false, .none] } C (some oD) := ⟨ho, rfl, rfl, hoD⟩
  obtain ⟨n, qq, N, bs, bm, sn, sub, ab, col, dd, k0, k1, tk, k3, k5, hC, hbm⟩ := T.cls
  refine PySem.ExqW.exq_class T.ex.hg T.ex.hk T.ex.hs (T.ex.fo oD) T.ex.hm I1.kIn J ?_
  refine PySem.ExqW.exq_name (s := { s1 with toks := s1.toks + 1 }) I1.kIn T.rd T.fc T.tyC hC rfl rfl ?_
  exact ⟨.str nm, H1, I1.tok _, ⟨tk, rfl⟩, q⟩
/-- error.f in an except suite: the class is known when it runs -/
def tXfA (K : PySem.W.Frag) (a : Addr) (cls : Value) (d : Option Addr) (f : Str) (te : TE) : TE := fun σ H Q => te σ H fun x H1 => x = .ref a ∧ ∃ C, cls = .ref C ∧ XfC K C ∧ PySem.W.findIn K (.ref C) f = some none ∧ ∃ (dd : Addr) (fs : List (Str × V)) (v : V), d = some dd ∧ H1 dd = some (.xd fs) ∧ fs.lookup f = some v ∧ Q v H1
theorem pe_xfA {X : Cx} {a : Addr} {oe : Obj} {cls : Value} {d : Option Addr} {pn : List (Addr × Obj)} {e : Expr} {te : TE} {pos : Pos} {n : Str}
    (hz : Zc cls d oe) (hf : ∃ vs, oe.data = .fields vs) (he : PE (X.suite a ((a, oe) :: pn)) e te) (hb : attributeBase e n X.env (eval e X.env) = eval e X.env := by rfl) :
    PE (X.suite a ((a, oe) :: pn)) (.Attribute e n pos) (tXfA X.K a cls d n te) := by
  refine ⟨fun pins s σ H Q I h => ?_⟩
  refine attr_of hb (thn (he.run pins s σ H _ I h) fun u s1 hh => ?_)
  obtain ⟨x, H1, I1, rx, ex, C, ec, T, hno, dd, fs, v, ed, ea, l, q⟩ := hh
  subst ex
  obtain rfl : u = Value.ref a := rx
  subst ec
  subst ed
  obtain ⟨ha, _⟩ := I1.pin (a, oe) (List.mem_append_left _ List.mem_cons_self)
  obtain ⟨vs, hd⟩ := hf
  have hx : ObjOk X.prog X.w H1 s1.heap dd (.xd fs) := I1.hok dd _ ea
  obtain ⟨mA, hns, hr⟩ := hx
  obtain ⟨od, ho, hl⟩ := lookIn_ns hns
  obtain ⟨u, hu, ru⟩ := RelO.some_of (v := v) (o := mA n) (by rw [← l]; exact hr n)
  have J : PySem.W.InstAt s1.heap a oe C (some od) := ⟨ha, hz.1, by unfold PySem.W.notCls; rw [hd] <;> rfl, by rw [hz.2]; exact ho⟩
  exact HandSPX.exc_get I1.kIn J T.ga T.gg T.exC (PySem.W.findObj_own T.hdC hno rfl (by rw [hl, hu])) (handed_of ru) ⟨v, H1, I1.tok _, ru, q⟩
/-- isinstance(error, c) in an except suite -/
def rIsA (K : PySem.W.Frag) (cls : Value) (d : Option Addr) (a : Addr) : List V → Hp → VK → Prop := fun xs H Q => ∃ (C : Addr) (c : V) (cv : Value) (b : Bool) (dd : Addr) (fs : List (Str × V)), cls = .ref C ∧ ExcC K C ∧ d = some dd ∧ H dd = some (.xd fs) ∧ xs = [.ref a, c] ∧ (∀ u, RelV c u → u = cv) ∧ PySem.W.kitOne K (.ref C) cv = some b ∧ Q (.bl b) H
theorem call_isA {X : Cx} {a : Addr} {oe : Obj} {cls : Value} {d : Option Addr} {pn : List (Addr × Obj)} (hz : Zc cls d oe) (hf : ∃ vs, oe.data = .fields vs) : CallR (X.suite a ((a, oe) :: pn)) (.builtin "isinstance") (rIsA X.K cls d a) := by
  intro pins s σ H xs us Q I r h
  obtain ⟨C, c, cv, b, dd, fs, ec, T, ed, ea, rfl, hcv, e, q⟩ := h
  subst ec
  subst ed
  cases r with
  | cons rx rr =>
    cases rr with
    | cons rt rr =>
      cases rr
      cases rx
      have ecv := hcv _ rt
      subst ecv
      obtain ⟨hget, _⟩ := I.pin (a, oe) (List.mem_append.mpr (.inl List.mem_cons_self))
      obtain ⟨vs, hv⟩ := hf
      have hx : ObjOk X.prog X.w H s.heap dd (.xd fs) := I.hok dd _ ea
      obtain ⟨mA, ⟨od, es, ep, ho, hl⟩, hr⟩ := hx
      have J : PySem.W.InstAt s.heap a oe C (some od) := ⟨hget, hz.1, by unfold PySem.W.notCls; rw [hv] <;> rfl, by rw [hz.2]; exact ho⟩
      exact PySem.W.kia_one (PySem.ExqW.exq_kitx T.hg T.hk T.hs T.hd (T.fo od) T.hm) I.kIn J e (fun z => nomatch z) fun tk => ⟨.bl b, H, I.kept (t' := tk) fun _ _ z => z, rfl, q⟩
/-! ### calls that may let an error out -/
section
variable {X : Cx} {CX : CXT} {k : Nat} {f C : Addr} {fd : FuncData} {ps : List Str} {sp : Sp} {dvs : List V} {ds : List Value} {E : St → XK} {x m : Str} {p pos apos : Pos} {e o : Expr} {es : List Expr} {ta : TE} {t : TA}
theorem run_fnD {pins : List (Addr × Obj)} {σ : St} {H : Hp} {s : Shared} {Q : VK} {us : List Value} {vs : List V} (F : FnOk X.prog X.w X.K X.mg X.base CX k f fd ps sp) (hr : Room k X.A) (hb : Binds X.K fd ps ds) (hd : Vals dvs ds) (hx : PassesAt CX X σ (E σ))
    (I : Inv X pins σ H s) (r : Vals vs us) (h : sp (vs ++ dvs) H Q (E σ)) : wpAny (model X.prog X.w) X.A (call (.ref f) us) (EP X pins σ Q) X.xe s := by
  have r2 : Vals (vs ++ dvs) (us ++ ds) := r.append hd
  have hl : (us ++ ds).length = ps.length := by rw [← r2.length]; exact F.len _ _ _ _ h
  refine wpAny_call (codeAny_mono (F.run X.A X.stack s H ⟨us, []⟩ (us ++ ds) (vs ++ dvs) Q (E σ) hr I.env0 (hb s us I.kIn hl) r2 h) fun r s' hq => ?_)
  cases r with
  | error e => exact hx pins H s e s' I hq
  | ok fl =>
    cases fl with
    | ret u => exact I.after hq
    | next => exact False.elim hq
    | brk => exact False.elim hq
    | cont => exact False.elim hq
def tCallX (sp : Sp) (dvs : List V) (E : St → XK) (t : TA) : TE := fun σ H Q => t σ H fun vs H1 => sp (vs ++ dvs) H1 Q (E σ)
theorem pe_callX (F : FnOk X.prog X.w X.K X.mg X.base CX k f fd ps sp) (hr : Room k X.A) (hg : Gl X x) (hm : X.mg x = some (.ref f)) (hk : PySem.W.keepIn X.K (.ref f) = true) (hb : Binds X.K fd ps ds) (hd : Vals dvs ds) (hx : ∀ σ, PassesAt CX X σ (E σ))
    (ha : PA X (e :: es) t) (hdb : (x == ("__debug__" : Str)) = false := by decide) (he : starEach (e :: es) X.env = (false, eval e X.env) :: starEach es X.env := by rfl) (hpl : (backTo pos (starEach es X.env)).any (·.1) = false := by rfl) :
    PE X (.Call (.Name x p) (e :: es) [] pos) (tCallX sp dvs E t) := by
  refine ⟨fun pins s σ H Q I h => ?_⟩
  refine wpAny_Call_Name_kw (ld_glob I hg hm ?_ hdb)
  refine PySem.W.callWith_K (h₀ := X.base) I.ok.mod.kin hk (thn (ha.run pos pins s σ H _ I h) fun us s1 ⟨vs, H1, I1, r, q⟩ => ⟨I1.kIn, ?_⟩) he hpl
  exact run_fnD F hr hb hd (hx σ) I1 r q
/-- o.m(..) -/
def tMethX (C : Addr) (m : Str) (sp : Sp) (dvs : List V) (E : St → XK) (ta : TE) (t : TA) : TE := fun σ H Q => ta σ H fun x H1 => ∃ a dx fs, x = .ref a ∧ H1 a = some (.ins C dx fs) ∧ fs.lookup m = none ∧
  t σ H1 fun vs H2 => sp (x :: (vs ++ dvs)) H2 Q (E σ)
theorem pe_methX {pl : Sem Bool} (he : PE X o ta) (c : Cls X.K C) (hm : Meth X.K C m f) (F : FnOk X.prog X.w X.K X.mg X.base CX k f fd ps sp) (hr : Room k X.A) (hb : Binds X.K fd ps ds) (hd : Vals dvs ds) (hx : ∀ σ, PassesAt CX X σ (E σ)) (ha : PA X (e :: es) t)
    (hst : starEach (e :: es) X.env = (false, eval e X.env) :: starEach es X.env := by rfl) (hpl : (backTo pos (starEach es X.env)).any (·.1) = false := by rfl)
    (ht : eval (.Call (.Attribute o m apos) (e :: es) [] pos) X.env = (do
      let ov ← eval o X.env
      standAt apos.atName
      let (f, first) ← holding [ov] (getMethod ov m pl)
      callWith pos f first (backTo pos (starEach (e :: es) X.env)) (backToKw pos (keywordEach [] X.env))) := by rfl) :
    PE X (.Call (.Attribute o m apos) (e :: es) [] pos) (tMethX C m sp dvs E ta t) := by
  refine ⟨fun pins s σ H Q I h => ?_⟩
  refine PySem.W.methodCall_KW (pl := pl) (thn (he.run pins s σ H _ I h) fun u s1 ⟨x, H1, I1, rx, a, dx, fs, ex, ea, l, q⟩ => ?_) ht
  subst ex
  obtain rfl : u = Value.ref a := rx
  refine getmeth_ok I1 ea c hm l ?_
  refine PySem.W.callWith_K (first := [.ref a]) (h₀ := X.base) I.ok.mod.kin hm.kp (thn (ha.run pos pins s1 σ H1 _ I1 q) fun us s2 ⟨vs, H2, I2, r, q2⟩ => ⟨I2.kIn, ?_⟩) hst hpl
  exact run_fnD (us := .ref a :: us) (vs := .ref a :: vs) F hr hb hd (hx σ) I2 (.cons rfl r) q2
theorem pe_methX0 {pl : Sem Bool} (he : PE X o ta) (c : Cls X.K C) (hm : Meth X.K C m f) (F : FnOk X.prog X.w X.K X.mg X.base CX k f fd ps sp) (hr : Room k X.A) (hb : Binds X.K fd ps ds) (hd : Vals dvs ds) (hx : ∀ σ, PassesAt CX X σ (E σ))
    (ht : eval (.Call (.Attribute o m apos) [] [] pos) X.env = (do
      let ov ← eval o X.env
      standAt apos.atName
      let (f, first) ← holding [ov] (getMethod ov m pl)
      callWith pos f first (backTo pos (starEach [] X.env)) (backToKw pos (keywordEach [] X.env))) := by rfl) :
    PE X (.Call (.Attribute o m apos) [] [] pos) (tMethX C m sp dvs E ta tNil) := by
  refine ⟨fun pins s σ H Q I h => ?_⟩
  refine PySem.W.methodCall_KW (pl := pl) (thn (he.run pins s σ H _ I h) fun u s1 ⟨x, H1, I1, rx, a, dx, fs, ex, ea, l, q⟩ => ?_) ht
  subst ex
  obtain rfl : u = Value.ref a := rx
  refine getmeth_ok I1 ea c hm l ?_
  exact PySem.W.callWith_K0 (first := [.ref a]) I1.kIn hm.kp (run_fnD (us := [.ref a]) (vs := [.ref a]) F hr hb hd (hx σ) I1 (.cons rfl .nil) q)
end
/-! ### readings -/
def ErrD (H : Hp) (d : Addr) (nm : Str) (n : Int) : Prop := H d = some (.xd [("name", .str nm), ("place", .int n)])
theorem ErrD.ex {H H' : Hp} {d : Addr} {nm : Str} {n : Int} (e : Evl.Ex H H') (h : ErrD H d nm n) : ErrD H' d nm n := e _ _ h
def sp_einit (K : PySem.W.Frag) : Sp := fun vs H Q _ => ∃ (a C fI : Addr) (nm : Str) (n : Int), vs = [.ref a, .int n] ∧ ExK K C fI nm ∧ H a = some (exo a C none) ∧
  ∀ dx H', H dx = none → dx ≠ a → (∀ b o, b ≠ a → H b = some o → H' b = some o) → H' a = some (exo a C (some dx)) → H' dx = some (exd dx [("name", .str nm), ("place", .int n)]) → Q .non H'
theorem mk_err {K : PySem.W.Frag} {C fI : Addr} {nm : Str} {σ : St} {H : Hp} {ta : TA} {n : Int} {Q : XK} (T : ExK K C fI nm) (h : Evl.EvA ta σ H [.int n]) (k : ∀ H' d, H d = none → Evl.Ex H H' → ErrD H' d nm n → Q (.ref C) (some d) H') : tMkO C (sp_einit K) [] ta σ H Q := by
  refine h H (Evl.Ex.refl H) _ fun H1 e1 => ⟨Nat.le_of_ble_eq_true rfl, fun a ha => ⟨a, C, fI, nm, n, rfl, T, upd_same, fun dx H2 hdx ne keep h2a h2d => ⟨rfl, dx, _, h2a, h2d, by rwa [upd_ne ne] at hdx, ?_⟩⟩⟩
  have hdx1 : H1 dx = none := by rwa [upd_ne ne] at hdx
  refine k _ dx (by cases hh : H dx with | none => rfl | some o => rw [e1 _ _ hh] at hdx1; cases hdx1) (fun b o hb => ?_) upd_same
  have hb1 := e1 _ _ hb
  have nb : b ≠ a := fun z => by rw [z, ha] at hb1; cases hb1
  have nd : b ≠ dx := fun z => by rw [z, hdx1] at hb1; cases hb1
  rw [upd_ne nd, del_ne nb]
  exact keep b o nb (by rw [upd_ne nb]; exact hb1)
end L2
namespace L2
open PySem PySem.Spec PyProof.Rows
/-! ### errors whose context is kept (L2N): calls within an except suite -/
theorem passN {X : Cx} : Passes (L2N.CX X.prog X.w) X E0 := fun _ _ _ _ _ _ _ h => by
  obtain ⟨_, _, _, _, _, _, _, _, _, _, _, _, z⟩ := h
  exact z.elim
theorem passH0 {X : Cx} {σ : St} : PassesAt CX0 X σ E0 := fun _ _ _ _ _ _ h => h.elim
theorem takesN0 {X : Cx} : L2N.Takes X (fun _ _ _ _ => False) := fun _ _ x => by
  obtain ⟨_, _, _, _, _, _, _, _, _, _, _, _, _, _, _, _, z⟩ := x
  exact z.elim
section
variable {P : Program} {w : World} {K : PySem.W.Frag} {mg : Str → Option Value} {base : Heap}
theorem Fun.okN {x qual : Str} {st : Stmt} {f : Addr} {fd : FuncData} {N ps : List Str} {k : Nat} {sp : Sp} (F : Fun K x qual st f fd) (S : FnScope N ps (defScope st)) (len : ∀ vs H Q E, sp vs H Q E → vs.length = ps.length)
    (hbody : ∀ (cdv : Value) (A : Around) (outer : List Env) (s : Shared) (H : Hp) (vs : List V) (Q : VK) (E : XK), Room k (A.deeper (envOfC qual (defScope st) s.heap.objs.size f cdv)) → sp vs H Q E →
      ∃ t, PSs (cxOf (L2N.CX P w) P w K mg base N qual (defScope st) f cdv A outer s H E) (defBody st) t ∧ t { nx := fun _ H' => Q .non H', rt := Q } (start N vs) H) : FnOk P w K mg base (L2N.CX P w) (k + 1) f fd ps sp := by
  obtain ⟨_, _, _, _, _, _, cdv, _, _, rfl, lk, hcd⟩ := F.ex
  exact fn_of lk hcd S len fun A outer s H vs Q E => hbody cdv A outer s H vs Q E
/-- a def that is called while an exception is handled -/
theorem Fun.okH {x qual : Str} {st : Stmt} {f : Addr} {fd : FuncData} {N ps : List Str} {k : Nat} {sp : Sp} (F : Fun K x qual st f fd) (S : FnScope N ps (defScope st)) (len : ∀ vs H Q E, sp vs H Q E → vs.length = ps.length)
    (hbody : ∀ (cdv : Value) (A : Around) (outer : List Env) (s : Shared) (H : Hp) (vs : List V) (Q : VK) (E : XK) (p : Addr × Obj), L2H.RoomH k (A.deeper (envOfC qual (defScope st) s.heap.objs.size f cdv)) → sp vs H Q E →
      ∃ t, PSs (L2H.cxH CX0 P w K mg base N qual (defScope st) f cdv A outer s H E p) (defBody st) t ∧ t { nx := fun _ H' => Q .non H', rt := Q } (start N vs) H) : L2H.FnH P w K mg base CX0 (k + 1) f fd ps sp := by
  obtain ⟨_, _, _, _, _, _, cdv, _, _, rfl, lk, hcd⟩ := F.ex
  exact L2H.fn_ofH lk hcd S len fun A outer s H vs Q E p _ hr hsp => hbody cdv A outer s H vs Q E p hr hsp
end
theorem hot_of {X : Cx} {a : Addr} {oe : Obj} {cls : Value} {d : Option Addr} {pn : List (Addr × Obj)} (hz : L2N.Zn cls d oe) (hf : ∃ vs, oe.data = .fields vs) : L2H.HotC (X.suite a ((a, oe) :: pn)) := by
  obtain ⟨vs, e⟩ := hf
  exact ⟨(a, oe), ⟨rfl, vs, e, hz.2.2 vs e⟩, List.mem_cons_self⟩
theorem roomH_suite {X : Cx} {a : Addr} {pn : List (Addr × Obj)} {j k : Nat} (r : Room k X.A) (h : j ≤ k) : L2H.RoomH j (X.suite a pn).A := ⟨by have := r.dp; show X.A.depth + _ + 5 < _; omega, by have := r.un; show X.A.units + _ + 200 < _; omega⟩
section
variable {X : Cx} {CX : CXT} {k : Nat} {f C : Addr} {fd : FuncData} {ps : List Str} {sp : Sp} {dvs : List V} {ds : List Value} {E : St → XK} {x m : Str} {p pos apos : Pos} {e o : Expr} {es : List Expr} {ta : TE} {t : TA}
/-- o.m() while an exception is handled -/
theorem pe_methH0 {pl : Sem Bool} (he : PE X o ta) (c : Cls X.K C) (hm : Meth X.K C m f) (F : L2H.FnH X.prog X.w X.K X.mg X.base CX k f fd ps sp) (hr : L2H.RoomH k X.A) (hc : L2H.HotC X) (hb : Binds X.K fd ps []) (hx : ∀ σ, PassesAt CX X σ (E σ))
    (ht : eval (.Call (.Attribute o m apos) [] [] pos) X.env = (do
      let ov ← eval o X.env
      standAt apos.atName
      let (f, first) ← holding [ov] (getMethod ov m pl)
      callWith pos f first (backTo pos (starEach [] X.env)) (backToKw pos (keywordEach [] X.env))) := by rfl) :
    PE X (.Call (.Attribute o m apos) [] [] pos) (tMethX C m sp [] E ta tNil) := by
  refine ⟨fun pins s σ H Q I h => ?_⟩
  refine PySem.W.methodCall_KW (pl := pl) (thn (he.run pins s σ H _ I h) fun u s1 ⟨x, H1, I1, rx, a, dx, fs, ex, ea, l, q⟩ => ?_) ht
  subst ex
  obtain rfl : u = Value.ref a := rx
  refine getmeth_ok I1 ea c hm l ?_
  exact PySem.W.callWith_K0 (first := [.ref a]) I1.kIn hm.kp (L2H.run_fnH (us := [.ref a]) (vs := [.ref a]) F hr hc hb (hx σ) I1 (.cons rfl .nil) q)
/-- C(e, ..): an own error, made where nothing is handled -/
theorem pmkN_oex {CX : CXT} {x : Str} {C fI : Addr} {k : Nat} {fd : FuncData} {ps : List Str} {sp : Sp} {ds : List Value} {dvs : List V} (T : OexC X.K C) (iC : PySem.W.findIn X.K (.ref C) "__init__" = some (some (.ref fI))) (tI : PySem.W.typeIn X.K (.ref fI) = some (.type "function"))
    (F1 : FnOk X.prog X.w X.K X.mg X.base CX k fI fd ps sp) (hr : Room (k + 1) X.A) (hb : Binds X.K fd ps ds) (hd : Vals dvs ds) (hx : Passes CX X (fun _ _ _ => False)) (hg : Gl X x) (hm : X.mg x = some (.ref C)) (ha : PA X (e :: es) t)
    (hdb : (x == ("__debug__" : Str)) = false := by decide) (he : starEach (e :: es) X.env = (false, eval e X.env) :: starEach es X.env := by rfl) (hpl : (backTo pos (starEach es X.env)).any (·.1) = false := by rfl) :
    L2N.PMk X (.Call (.Name x p) (e :: es) [] pos) (tMkO C sp dvs t) := fun pins s σ H Q I h => by
  obtain ⟨_, _, _, _, bm, _, _, _, _, _, _, _, _, _, _, hC, hbm⟩ := T.cls
  refine wpAny_Call_Name_kw (ld_glob I hg hm (PySem.W.callWith_K (h₀ := X.base) I.ok.mod.kin T.kC (thn (ha.run pos pins s σ H _ I h) fun us s1 ⟨vs, H1, I1, r1, hz, q1⟩ => ⟨I1.kIn, ?_⟩) he hpl) hdb)
  show wpAny _ _ (call (.ref C) us) _ _ _
  obtain ⟨hp, g, dr, tk, os⟩ := s1
  obtain ⟨i, hi⟩ : ∃ i, i = hp.objs.size + 1 := ⟨_, rfl⟩
  have hsz : hp.objs.size ≤ i := by omega
  have hq := q1 i (I1.hok.fresh hsz)
  obtain ⟨G, hG⟩ : ∃ G, G = (hp.push (PySem.W.kdv_tup us)).push (PySem.HandSPX.excO C hp.objs.size) := ⟨_, rfl⟩
  have kk : ∀ b o, hp.get? b = some o → G.get? b = some o := fun b o z => by rw [hG]; exact Heap.get?_push_of_some _ (Heap.get?_push_of_some _ z)
  have I2 : Inv X pins σ (upd H1 i (exo i C none)) ⟨G, g, dr, tk, os⟩ := I1.laid (t' := tk) kk hsz (exo_ok (by rw [hG, hi]; heap_get))
  have r2 : Vals (V.ref i :: (vs ++ dvs)) (Value.ref i :: (us ++ ds)) := .cons rfl (r1.append hd)
  have hl : (Value.ref i :: us ++ ds).length = ps.length := (r2.length.symm.trans (F1.len _ _ _ _ hq))
  refine wpAny_call (PySem.HandSPX.call_own F.excBase_ValueError (fun Y => PySem.HandSPX.refsVE_contains Y bm hbm) (I1.kIn _ _ hC) (PySem.W.looks_findIn I1.kIn iC) (fun self => PySem.W.bind_fn I1.kIn self tI) (by rw [← Paired.length r1, sizeLine_eq]; omega) ?_)
  have F2 := F1.run _ X.stack _ _ ⟨Value.ref i :: us, []⟩ (Value.ref i :: (us ++ ds)) _ _ (fun _ _ _ => False) (hr.make C us []) (I2.env0.make C us []) (hb _ (Value.ref i :: us) I2.kIn hl) r2 hq
  subst hi
  subst hG
  refine codeAny_mono F2 fun r s' hq' => ?_
  cases r with
  | error er => exact hx pins σ _ _ er s' I2 hq'
  | ok fl =>
    cases fl with
    | ret u =>
      obtain ⟨v, H2, os2, bare2, un2, hok2, rv, ev, d, fs, ea, ed, hd1, q2⟩ := hq'
      subst ev
      obtain ⟨h2, g2, d2, t2, os'⟩ := s'
      obtain ⟨t0, G', J, kG, ge, hoe, na⟩ := mk_end0 (d2 := d2) (t2 := t2) I1 hsz kk un2 hok2 os2 bare2 ea ed hd1
      exact ⟨rv, _, _, _, ⟨G', g2, d2, t2, os'⟩, _, .ref C, some d, rfl, J, kG, ge, hoe, ⟨rfl, rfl, fun ws hw => by cases hw; rfl⟩, rfl, rfl, na, rfl, bare2, raises_own T.exC T.tyC, q2⟩
    | next => exact False.elim hq'
    | brk => exact False.elim hq'
    | cont => exact False.elim hq'
end
end L2

namespace K51
open PySem PySem.Spec PyProof.Rows L2 Evl
def topS (i : Nat) : Stmt := PySem.Challenge.pw_monochord_k51_comment_faults.main.body.getD i (.Pass ⟨0, 0, 0, 0⟩)
abbrev s_MonochordError_init : Stmt := inClass (topS 2) 0
theorem sc_MonochordError_init : FnScope ["self", "place"] ["self", "place"] (defScope s_MonochordError_init) := ⟨rfl, rfl, rfl, by decide +kernel, rfl, by decide +kernel, by decide +kernel⟩
abbrev s_write_utf8 : Stmt := topS 6
theorem sc_write_utf8 : FnScope ["text", "data", "point"] ["text"] (defScope s_write_utf8) := ⟨rfl, rfl, rfl, by decide +kernel, rfl, by decide +kernel, by decide +kernel⟩
abbrev s_read_utf8 : Stmt := topS 7
theorem sc_read_utf8 : FnScope ["data", "start", "stop", "text", "place", "count"] ["data", "start", "stop"] (defScope s_read_utf8) := ⟨rfl, rfl, rfl, by decide +kernel, rfl, by decide +kernel, by decide +kernel⟩
abbrev s_point_count : Stmt := topS 8
theorem sc_point_count : FnScope ["point"] ["point"] (defScope s_point_count) := ⟨rfl, rfl, rfl, by decide +kernel, rfl, by decide +kernel, by decide +kernel⟩
abbrev s_least_first : Stmt := topS 9
theorem sc_least_first : FnScope ["count"] ["count"] (defScope s_least_first) := ⟨rfl, rfl, rfl, by decide +kernel, rfl, by decide +kernel, by decide +kernel⟩
abbrev s_point_bytes : Stmt := topS 10
theorem sc_point_bytes : FnScope ["point", "count", "data", "shift"] ["point"] (defScope s_point_bytes) := ⟨rfl, rfl, rfl, by decide +kernel, rfl, by decide +kernel, by decide +kernel⟩
abbrev s_count_told : Stmt := topS 11
theorem sc_count_told : FnScope ["first", "count"] ["first"] (defScope s_count_told) := ⟨rfl, rfl, rfl, by decide +kernel, rfl, by decide +kernel, by decide +kernel⟩
abbrev s_read_point : Stmt := topS 12
theorem sc_read_point : FnScope ["data", "place", "count", "point", "further"] ["data", "place", "count"] (defScope s_read_point) := ⟨rfl, rfl, rfl, by decide +kernel, rfl, by decide +kernel, by decide +kernel⟩
abbrev s_little_bytes : Stmt := topS 14
theorem sc_little_bytes : FnScope ["number", "count", "shift"] ["number", "count"] (defScope s_little_bytes) := ⟨rfl, rfl, rfl, by decide +kernel, rfl, by decide +kernel, by decide +kernel⟩
abbrev s_little_number : Stmt := topS 15
theorem sc_little_number : FnScope ["data", "place", "count", "number", "byte"] ["data", "place", "count"] (defScope s_little_number) := ⟨rfl, rfl, rfl, by decide +kernel, rfl, by decide +kernel, by decide +kernel⟩
abbrev s_check_inside : Stmt := topS 16
theorem sc_check_inside : FnScope ["place", "count", "stop"] ["place", "count", "stop"] (defScope s_check_inside) := ⟨rfl, rfl, rfl, by decide +kernel, rfl, by decide +kernel, by decide +kernel⟩
abbrev s_Comments_init : Stmt := inClass (topS 19) 0
theorem sc_Comments_init : FnScope ["self", "vendor", "entries", "name", "value"] ["self", "vendor", "entries"] (defScope s_Comments_init) := ⟨rfl, rfl, rfl, by decide +kernel, rfl, by decide +kernel, by decide +kernel⟩
abbrev s_read_comments : Stmt := topS 20
theorem sc_read_comments : FnScope ["data", "start", "stop", "place", "vendor", "count", "entries", "_", "behind"] ["data", "start", "stop"] (defScope s_read_comments) := ⟨rfl, rfl, rfl, by decide +kernel, rfl, by decide +kernel, by decide +kernel⟩
abbrev s_write_comments : Stmt := topS 21
theorem sc_write_comments : FnScope ["comments", "vendor", "data", "name", "value", "entry"] ["comments"] (defScope s_write_comments) := ⟨rfl, rfl, rfl, by decide +kernel, rfl, by decide +kernel, by decide +kernel⟩
abbrev s_read_length : Stmt := topS 22
theorem sc_read_length : FnScope ["data", "place", "stop", "length"] ["data", "place", "stop"] (defScope s_read_length) := ⟨rfl, rfl, rfl, by decide +kernel, rfl, by decide +kernel, by decide +kernel⟩
abbrev s_read_entry : Stmt := topS 23
theorem sc_read_entry : FnScope ["data", "place", "stop", "start", "content", "equals", "at"] ["data", "place", "stop"] (defScope s_read_entry) := ⟨rfl, rfl, rfl, by decide +kernel, rfl, by decide +kernel, by decide +kernel⟩
abbrev s_law_is_integer : Stmt := topS 25
theorem sc_law_is_integer : FnScope ["actual"] ["actual"] (defScope s_law_is_integer) := ⟨rfl, rfl, rfl, by decide +kernel, rfl, by decide +kernel, by decide +kernel⟩
abbrev s_law_refill : Stmt := topS 26
theorem sc_law_refill : FnScope ["script", "k", "cell"] ["script", "k"] (defScope s_law_refill) := ⟨rfl, rfl, rfl, by decide +kernel, rfl, by decide +kernel, by decide +kernel⟩
abbrev s_law_draw : Stmt := topS 27
theorem sc_law_draw : FnScope ["state", "script", "size", "digit"] ["state", "script", "size"] (defScope s_law_draw) := ⟨rfl, rfl, rfl, by decide +kernel, rfl, by decide +kernel, by decide +kernel⟩
abbrev s_law_junk : Stmt := topS 29
theorem sc_law_junk : FnScope ["state", "script", "count", "k"] ["state", "script", "count"] (defScope s_law_junk) := ⟨rfl, rfl, rfl, by decide +kernel, rfl, by decide +kernel, by decide +kernel⟩
abbrev s_law_text : Stmt := topS 32
theorem sc_law_text : FnScope ["state", "script", "most", "edges", "text", "k", "point"] ["state", "script", "most"] (defScope s_law_text) := ⟨rfl, rfl, rfl, by decide +kernel, rfl, by decide +kernel, by decide +kernel⟩
abbrev s_law_name : Stmt := topS 33
theorem sc_law_name : FnScope ["state", "script", "pool", "name", "k", "point"] ["state", "script"] (defScope s_law_name) := ⟨rfl, rfl, rfl, by decide +kernel, rfl, by decide +kernel, by decide +kernel⟩
abbrev s_law_entries : Stmt := topS 34
theorem sc_law_entries : FnScope ["state", "script", "most", "k"] ["state", "script", "most"] (defScope s_law_entries) := ⟨rfl, rfl, rfl, by decide +kernel, rfl, by decide +kernel, by decide +kernel⟩
abbrev s_law_utf8 : Stmt := topS 35
theorem sc_law_utf8 : FnScope ["text", "body", "point", "low", "second"] ["text"] (defScope s_law_utf8) := ⟨rfl, rfl, rfl, by decide +kernel, rfl, by decide +kernel, by decide +kernel⟩
abbrev s_law_little : Stmt := topS 36
theorem sc_law_little : FnScope ["number"] ["number"] (defScope s_law_little) := ⟨rfl, rfl, rfl, by decide +kernel, rfl, by decide +kernel, by decide +kernel⟩
abbrev s_law_comment_bytes : Stmt := topS 37
theorem sc_law_comment_bytes : FnScope ["vendor", "entries", "name_bytes", "body", "entry", "one"] ["vendor", "entries"] (defScope s_law_comment_bytes) := ⟨rfl, rfl, rfl, by decide +kernel, rfl, by decide +kernel, by decide +kernel⟩
abbrev s_law_length : Stmt := topS 38
theorem sc_law_length : FnScope ["first"] ["first"] (defScope s_law_length) := ⟨rfl, rfl, rfl, by decide +kernel, rfl, by decide +kernel, by decide +kernel⟩
abbrev s_law_text_fault : Stmt := topS 39
theorem sc_law_text_fault : FnScope ["data", "start", "stop", "at", "k", "length", "rest", "byte", "point"] ["data", "start", "stop"] (defScope s_law_text_fault) := ⟨rfl, rfl, rfl, by decide +kernel, rfl, by decide +kernel, by decide +kernel⟩
abbrev s_law_number : Stmt := topS 40
theorem sc_law_number : FnScope ["data", "at"] ["data", "at"] (defScope s_law_number) := ⟨rfl, rfl, rfl, by decide +kernel, rfl, by decide +kernel, by decide +kernel⟩
abbrev s_law_entry_fault : Stmt := topS 41
theorem sc_law_entry_fault : FnScope ["data", "at", "end", "middle", "k", "fault"] ["data", "at", "end"] (defScope s_law_entry_fault) := ⟨rfl, rfl, rfl, by decide +kernel, rfl, by decide +kernel, by decide +kernel⟩
abbrev s_law_expected : Stmt := topS 42
theorem sc_law_expected : FnScope ["data", "start", "stop", "at", "fault", "count", "k", "end", "found"] ["data", "start", "stop"] (defScope s_law_expected) := ⟨rfl, rfl, rfl, by decide +kernel, rfl, by decide +kernel, by decide +kernel⟩
abbrev s_law_outcome : Stmt := topS 43
theorem sc_law_outcome : FnScope ["data", "start", "stop", "e"] ["data", "start", "stop"] (defScope s_law_outcome) := ⟨rfl, rfl, rfl, by decide +kernel, rfl, by decide +kernel, by decide +kernel⟩
abbrev s_law : Stmt := topS 44
theorem sc_law : FnScope ["script", "state", "body", "k", "at", "byte", "kind", "before", "data", "stop"] ["script"] (defScope s_law) := ⟨rfl, rfl, rfl, by decide +kernel, rfl, by decide +kernel, by decide +kernel⟩
theorem hu64 {A : Around} {k : Nat} (hr : Room k A) : A.units + 64 < cLine := hr.units
/-! ### short words for readings -/
theorem ret_eq {v w : V} {H H' : Hp} {Q : VK} (k : RetV v H Q) (ex : Ex H H') (e : w = v) : Q w H' := e ▸ k H' ex
/-- isinstance(x, T), T a built-in class -/
theorem ev_isi {K : PySem.W.Frag} {σ : L2.St} {H : Hp} {ta : TE} {x : V} {t : String} {T : String} {b : Bool} (ha : Ev ta σ H x) (ht : ∀ H1, Ex H H1 → TyX K H1 x (.type t)) (hk : kitB t T = some b) :
    Ev (tCB (rIsi K) (tCons ta (tCons (tC (.ty T)) tNil))) σ H (.bl b) :=
  ev_cb (ea_cons ha (ea_cons ev_c ea_nil)) fun H1 e Q q => ⟨x, .ty T, _, _, b, rfl, .ty T, ht H1 e, kit_ty hk, q H1 (Ex.refl H1)⟩
theorem isi_int {K : PySem.W.Frag} {H : Hp} {i : Int} : ∀ H1, Ex H H1 → TyX K H1 (V.int i) (.type "int") := fun _ _ => .base (.int _)
theorem isi_bl {K : PySem.W.Frag} {H : Hp} {b : Bool} : ∀ H1, Ex H H1 → TyX K H1 (V.bl b) (.type "bool") := fun _ _ => .base (.bl _)
theorem isi_non {K : PySem.W.Frag} {H : Hp} : ∀ H1, Ex H H1 → TyX K H1 V.non (.type "NoneType") := fun _ _ => .base .non
theorem isi_lst {K : PySem.W.Frag} {H : Hp} {a : Addr} {xs : List V} (h : H a = some (.lst xs)) : ∀ H1, Ex H H1 → TyX K H1 (V.ref a) (.type "list") := fun _ e => .base (.lst (e _ _ h))
theorem isi_tup {K : PySem.W.Frag} {H : Hp} {a : Addr} {xs : List V} (h : H a = some (.tup xs)) : ∀ H1, Ex H H1 → TyX K H1 (V.ref a) (.type "tuple") := fun _ e => .base (.tup (e _ _ h))
theorem kit_ii : kitB "int" "int" = some true := by decide +kernel
theorem kit_ib : kitB "int" "bool" = some false := by decide +kernel
theorem kit_bb : kitB "bool" "bool" = some true := by decide +kernel
theorem kit_bi : kitB "bool" "int" = some true := by decide +kernel
theorem kit_ll : kitB "list" "list" = some true := by decide +kernel
theorem kit_tt : kitB "tuple" "tuple" = some true := by decide +kernel
theorem ev_isiI {K : PySem.W.Frag} {σ : L2.St} {H : Hp} {ta : TE} {i : Int} (ha : Ev ta σ H (.int i)) : Ev (tCB (rIsi K) (tCons ta (tCons (tC (.ty "int")) tNil))) σ H (.bl true) := ev_isi ha isi_int kit_ii
theorem ev_isiB {K : PySem.W.Frag} {σ : L2.St} {H : Hp} {ta : TE} {i : Int} (ha : Ev ta σ H (.int i)) : Ev (tCB (rIsi K) (tCons ta (tCons (tC (.ty "bool")) tNil))) σ H (.bl false) := ev_isi ha isi_int kit_ib
theorem ev_isiL {K : PySem.W.Frag} {σ : L2.St} {H : Hp} {ta : TE} {a : Addr} {xs : List V} (ha : Ev ta σ H (.ref a)) (h : H a = some (.lst xs)) : Ev (tCB (rIsi K) (tCons ta (tCons (tC (.ty "list")) tNil))) σ H (.bl true) := ev_isi ha (isi_lst h) kit_ll
theorem ev_isiBB {K : PySem.W.Frag} {σ : L2.St} {H : Hp} {ta : TE} {b : Bool} (ha : Ev ta σ H (.bl b)) : Ev (tCB (rIsi K) (tCons ta (tCons (tC (.ty "bool")) tNil))) σ H (.bl true) := ev_isi ha isi_bl kit_bb
theorem ev_chain {σ : L2.St} {H : Hp} {ta tb tc : TE} {g g' : Int → Int → Bool} {a b c : Int} (ha : Ev ta σ H (.int a)) (hb : Ev tb σ H (.int b)) (hc : Ev tc σ H (.int c)) :
    Ev (tChain (rI0 fun i j => .bl (g i j)) (rI0 fun i j => .bl (g' i j)) ta tb tc) σ H (.bl (g a b && g' b c)) := fun H1 e Q q =>
  ha H1 e _ fun H2 e2 => hb H2 (e.trans e2) _ fun H3 e3 => ⟨a, b, rfl, rfl, g a b, rfl, by
    cases hg : g a b with
    | true =>
      rw [if_pos rfl]
      rw [hg, Bool.true_and] at q
      exact hc H3 ((e.trans e2).trans e3) _ fun H4 e4 => ⟨b, c, rfl, rfl, q H4 ((e2.trans e3).trans e4)⟩
    | false =>
      rw [if_neg (by decide)]
      rw [hg, Bool.false_and] at q
      exact q H3 (e2.trans e3)⟩
theorem ev_isN {σ : L2.St} {H : Hp} {ta : TE} {x : V} (ha : Ev ta σ H x) : Ev (tOp rIsN ta (tC .non)) σ H (.bl (decide (x = .non))) := fun H1 e Q q => ha H1 e _ fun H2 e2 => ⟨rfl, q H2 e2⟩
theorem ev_notN {σ : L2.St} {H : Hp} {ta : TE} {x : V} (ha : Ev ta σ H x) : Ev (tOp rNotN ta (tC .non)) σ H (.bl (!decide (x = .non))) := fun H1 e Q q => ha H1 e _ fun H2 e2 => ⟨rfl, q H2 e2⟩
theorem ev_min2 {σ : L2.St} {H : Hp} {ta tb : TE} {i j : Int} (ha : Ev ta σ H (.int i)) (hb : Ev tb σ H (.int j)) :
    Ev (tCB (fun xs H Q => ∃ i j, xs = [.int i, .int j] ∧ Q (.int (if j < i then j else i)) H) (tCons ta (tCons tb tNil))) σ H (.int (if j < i then j else i)) :=
  ev_cb (ea_cons ha (ea_cons hb ea_nil)) fun H1 _ _ q => ⟨i, j, rfl, q H1 (Ex.refl H1)⟩
theorem ev_negI {σ : L2.St} {H : Hp} {ta : TE} {i : Int} (ha : Ev ta σ H (.int i)) : Ev (tUn (rU fun i => .int (-i)) ta) σ H (.int (-i)) := ev_un ha ru_neg
theorem ev_I0 {σ : L2.St} {H : Hp} {ta tb : TE} {g : Int → Int → V} {i j : Int} (ha : Ev ta σ H (.int i)) (hb : Ev tb σ H (.int j)) : Ev (tOp (rI0 g) ta tb) σ H (g i j) := ev_op ha hb rv_I0
theorem ev_I {σ : L2.St} {H : Hp} {ta tb : TE} {C : Int → Int → Prop} {g : Int → Int → V} {i j : Int} (ha : Ev ta σ H (.int i)) (hb : Ev tb σ H (.int j)) (hc : C i j) : Ev (tOp (rI C g) ta tb) σ H (g i j) := ev_op ha hb (rv_I hc)
theorem ev_eq {σ : L2.St} {H : Hp} {ta tb : TE} {x y : V} (ha : Ev ta σ H x) (hb : Ev tb σ H y) (hs : scal x y = true) : Ev (tOp rEq ta tb) σ H (.bl (decide (x = y))) := ev_op ha hb (rv_eq hs)
theorem ev_ne {σ : L2.St} {H : Hp} {ta tb : TE} {x y : V} (ha : Ev ta σ H x) (hb : Ev tb σ H y) (hs : scal x y = true) : Ev (tOp rNe ta tb) σ H (.bl (!decide (x = y))) := ev_op ha hb (rv_ne hs)
theorem et_B' {σ : L2.St} {H : Hp} {te : TE} {x : V} {b : Bool} (h : Ev te σ H x) (e : x = .bl b) : EvT (tB te) σ H b := et_B (e ▸ h)
theorem dec_lt {a b : Nat} : decide ((a : Int) < (b : Int)) = decide (a < b) := by
  by_cases h : a < b
  · rw [decide_eq_true h, decide_eq_true (by omega)]
  · rw [decide_eq_false h, decide_eq_false (by omega)]
theorem int_at {ns : List Int} {i : Nat} {x : V} (hx : (ns.map V.int)[i]? = some x) : ∃ n, ns[i]? = some n ∧ i < ns.length ∧ x = V.int n := by
  rw [List.getElem?_map] at hx
  cases en : ns[i]? with
  | none => rw [en] at hx; cases hx
  | some n => rw [en] at hx; exact ⟨n, rfl, (List.getElem?_eq_some_iff.mp en).1, (Option.some.inj hx).symm⟩
theorem at_int {ns : List Int} {i : Nat} {n : Int} (h : ns[i]? = some n) : (ns.map V.int)[i]? = some (V.int n) := by rw [List.getElem?_map, h]; rfl
local macro_rules | `(tactic| walk_at "side") => `(tactic| first
  | omega | (show CMul _ _; unfold CMul; omega) | (show CDiv _ _; unfold CDiv; omega) | (show CPow _ _; unfold CPow; omega) | (show (_ : Int) < _; omega) | (show (_ : Int) ≤ _; omega) | decide)
local macro_rules | `(tactic| walk_at "ev") => `(tactic| first
  | exact ev_var rfl
  | exact ev_c
  | (refine' ev_I0 ?h1 ?h2; (case h1 => walk_at "ev"); (case h2 => walk_at "ev"))
  | (refine' ev_negI ?h1; (case h1 => walk_at "ev"))
  | (refine' ev_I ?h1 ?h2 ?hc; (case h1 => walk_at "ev"); (case h2 => walk_at "ev"); (case hc => walk_at "side"))
  | (refine' ev_eq ?h1 ?h2 ?hc; (case h1 => walk_at "ev"); (case h2 => walk_at "ev"); (case hc => rfl))
  | (refine' ev_ne ?h1 ?h2 ?hc; (case h1 => walk_at "ev"); (case h2 => walk_at "ev"); (case hc => rfl))
  | (refine' ev_max2 ?h1 ?h2; (case h1 => walk_at "ev"); (case h2 => walk_at "ev"))
  | (refine' ev_min2 ?h1 ?h2; (case h1 => walk_at "ev"); (case h2 => walk_at "ev"))
  | (refine' ev_chain ?h1 ?h2 ?h3; (case h1 => walk_at "ev"); (case h2 => walk_at "ev"); (case h3 => walk_at "ev"))
  | (refine' ev_isN ?h1; (case h1 => walk_at "ev"))
  | (refine' ev_notN ?h1; (case h1 => walk_at "ev"))
  | (refine' ev_isiI ?h1; (case h1 => walk_at "ev"))
  | (refine' ev_isiB ?h1; (case h1 => walk_at "ev"))
  | (refine' ev_isiBB ?h1; (case h1 => walk_at "ev"))
  | (refine' ev_andV ?h1 (fun _ => ?h2); (case h1 => walk_at "ev"); (case h2 => walk_at "ev"))
  | (refine' ev_orV ?h1 (fun _ => ?h2); (case h1 => walk_at "ev"); (case h2 => walk_at "ev"))
  | (refine' ev_notV ?h1; (case h1 => walk_at "ev"))
  | walk_at "evmore")
local macro_rules | `(tactic| walk_at "et") => `(tactic| first
  | (refine' et_test ?h1; (case h1 => walk_at "ev"))
  | (refine' et_B ?h1; (case h1 => walk_at "ev"))
  | (refine' et_not ?h1; (case h1 => walk_at "et"))
  | (refine' et_and ?h1 (fun _ => ?h2); (case h1 => walk_at "et"); (case h2 => walk_at "et"))
  | (refine' et_or ?h1 (fun _ => ?h2); (case h1 => walk_at "et"); (case h2 => walk_at "et")))
local macro_rules | `(tactic| walk_at "ea") => `(tactic| first
  | exact ea_nil
  | (refine' ea_cons ?h1 ?h2; (case h1 => walk_at "ev"); (case h2 => walk_at "ea")))
local macro_rules | `(tactic| walk_at "when") => `(tactic| (refine' q_when ?h ?h1 ?h2; (case h => walk_at "et")))
local macro_rules | `(tactic| walk_at "whenS") => `(tactic| (refine' s_when ?h ?h1 ?h2; (case h => walk_at "et")))
local macro_rules | `(tactic| walk_at "if") => `(tactic| (refine' q_if ?h ?h1 ?h2; (case h => walk_at "et")))
local macro_rules | `(tactic| walk_at "ifS") => `(tactic| (refine' s_if ?h ?h1 ?h2; (case h => walk_at "et")))
local macro_rules | `(tactic| walk_at "ret") => `(tactic| (refine' s_ret ?h ?h1; (case h => walk_at "ev")))
local macro_rules | `(tactic| walk_at "asg") => `(tactic| (refine' q_asg ?h ?h1; (case h => walk_at "ev")))
local macro_rules | `(tactic| walk_at "asgS") => `(tactic| (refine' s_asg ?h ?h1; (case h => walk_at "ev")))

/-! ### lists, existing or new -/
def EvR (te : TE) (σ : L2.St) (H : Hp) (xs : List V) : Prop := ∀ H1, Ex H H1 → ∀ Q : VK, (∀ p H2, Ex H1 H2 → H2 p = some (.lst xs) → Q (.ref p) H2) → te σ H1 Q
def EvS (K : PySem.W.Frag) (te : TE) (σ : L2.St) (H : Hp) (xs : List V) : Prop := ∀ H1, Ex H H1 → ∀ Q : VK, (∀ p H2, Ex H1 H2 → SqL K H2 p xs → Q (.ref p) H2) → te σ H1 Q
section
variable {K : PySem.W.Frag} {σ : L2.St} {H H' : Hp} {ta tb te : TE} {xs ys : List V} {a : Addr}
theorem EvL.r (h : EvL te σ H xs) : EvR te σ H xs := fun H1 e Q q => h H1 e Q fun p H2 _ e2 h2 => q p H2 e2 h2
theorem Ev.r (h : Ev te σ H (.ref a)) (hx : H a = some (.lst xs)) : EvR te σ H xs := fun H1 e Q q => h H1 e Q fun H2 e2 => q a H2 e2 (e2 _ _ (e _ _ hx))
theorem EvR.s (h : EvR te σ H xs) : EvS K te σ H xs := fun H1 e Q q => h H1 e Q fun p H2 e2 h2 => q p H2 e2 (sq_of h2)
theorem Ev.s (h : Ev te σ H (.ref a)) (hx : SqL K H a xs) : EvS K te σ H xs := fun H1 e Q q => h H1 e Q fun H2 e2 => q a H2 e2 (ex_l e2 (ex_l e hx))
theorem EvR.mono (e : Ex H H') (h : EvR te σ H xs) : EvR te σ H' xs := fun H1 a Q q => h H1 (e.trans a) Q q
theorem EvS.mono (e : Ex H H') (h : EvS K te σ H xs) : EvS K te σ H' xs := fun H1 a Q q => h H1 (e.trans a) Q q
theorem EvL.is (h : EvL te σ H xs) (e : xs = ys) : EvL te σ H ys := e ▸ h
theorem EvR.is (h : EvR te σ H xs) (e : xs = ys) : EvR te σ H ys := e ▸ h
theorem el_cat (ha : EvR ta σ H xs) (hb : EvR tb σ H ys) (hl : xs.length + ys.length ≤ 100000) : EvL (tOp rCat ta tb) σ H (xs ++ ys) := fun H1 e Q q =>
  ha H1 e _ fun p H2 e2 h2 => hb H2 (e.trans e2) _ fun r H3 e3 h3 => ⟨p, r, xs, ys, rfl, rfl, e3 _ _ h2, h3, sz_of hl, fun l hl => q l _ (fresh_back (e2.trans e3) hl) ((e2.trans e3).trans (Ex.new hl)) upd_same⟩
theorem el_rep {k : Int} (ha : EvR ta σ H xs) (hb : Ev tb σ H (.int k)) (hk : -(2 ^ 63) ≤ k ∧ k < 2 ^ 63) (hl : xs.length * k.toNat ≤ 100000) : EvL (tOp rRep ta tb) σ H (List.replicate k.toNat xs).flatten := fun H1 e Q q =>
  ha H1 e _ fun p H2 e2 h2 => hb H2 (e.trans e2) _ fun H3 e3 => ⟨p, k, xs, rfl, rfl, e3 _ _ h2, hk.1, hk.2, sz_of hl, fun l hl => q l _ (fresh_back (e2.trans e3) hl) ((e2.trans e3).trans (Ex.new hl)) upd_same⟩
theorem rep_one {x : V} (n : Nat) : (List.replicate n [x]).flatten = List.replicate n x := by
  induction n with
  | zero => rfl
  | succ n ih => rw [List.replicate_succ, List.replicate_succ, List.flatten_cons, ih]; rfl
theorem el_of {te : TE} (h : EvS K te σ H xs) : EvL (tCB (rListS K) (tCons te tNil)) σ H xs := fun H1 e Q q =>
  h H1 e _ fun p H2 e2 h2 => ⟨p, xs, rfl, .inl h2, fun l hl => q l _ (fresh_back e2 hl) (e2.trans (Ex.new hl)) upd_same⟩
theorem ev_lenS (h : EvS K te σ H xs) : Ev (tCB (rLenS K) (tCons te tNil)) σ H (.int (xs.length : Int)) := fun H1 e Q q =>
  h H1 e _ fun p H2 e2 h2 => ⟨p, xs, rfl, .inl h2, q H2 e2⟩
theorem ev_sum {ns : List Int} (h : EvS K te σ H (ns.map V.int)) : Ev (tCB (rSum K) (tCons te tNil)) σ H (.int ns.sum) := fun H1 e Q q =>
  h H1 e _ fun p H2 e2 h2 => ⟨p, ns, rfl, h2, q H2 e2⟩
theorem dp_ints {K : PySem.W.Frag} {H : Hp} : ∀ ns : List Int, DpAll K H (ns.map V.int) (ns.map PyData.int)
  | [] => .nil
  | n :: r => .cons (.int n) (dp_ints r)
theorem eqv_ints : ∀ ns ms : List Int, PyData.eqvAll (ns.map PyData.int) (ms.map PyData.int) = decide (ns = ms)
  | [], [] => by simp [PyData.eqvAll]
  | [], _ :: _ => by simp [PyData.eqvAll]
  | _ :: _, [] => by simp [PyData.eqvAll]
  | n :: r, m :: t => by
    show (PyData.eqv (.int n) (.int m) && PyData.eqvAll (r.map PyData.int) (t.map PyData.int)) = _
    rw [eqv_ints r t]
    show ((n == m) && decide (r = t)) = _
    by_cases h1 : n = m <;> by_cases h2 : r = t <;> simp [h1, h2]
theorem canLay_ints : ∀ ns : List Int, PyData.canLayAll0 (ns.map PyData.int) = true
  | [] => by simp [PyData.canLayAll0]
  | n :: r => by
    show PyData.canLayAll0 (PyData.int n :: r.map PyData.int) = true
    rw [PyData.canLayAll0, canLay_ints r]
    simp [PyData.canLay0]
theorem depth_ints : ∀ ns : List Int, PyData.depthAll (ns.map PyData.int) ≤ 1
  | [] => by simp [PyData.depthAll]
  | n :: r => by
    show PyData.depthAll (PyData.int n :: r.map PyData.int) ≤ 1
    have := depth_ints r
    simp only [PyData.depthAll, PyData.depth]
    omega
theorem shaped_ints (ns : List Int) : SeqAt.shaped (.list (ns.map PyData.int)) = true := by
  unfold SeqAt.shaped
  have h1 := canLay_ints ns
  have h2 := depth_ints ns
  have h3 : PyData.depth (.list (ns.map PyData.int)) ≤ 64 := by
    rw [PyData.depth]
    omega
  rw [decide_eq_true h3, Bool.and_true]
  simpa only [PyData.canLay0] using h1
theorem ev_eqI {ns ms : List Int} (ha : EvS K ta σ H (ns.map V.int)) (hb : EvS K tb σ H (ms.map V.int)) : Ev (tOp (rEqD K) ta tb) σ H (.bl (decide (ns = ms))) := fun H1 e Q q =>
  ha H1 e _ fun p H2 e2 h2 => hb H2 (e.trans e2) _ fun r H3 e3 h3 => ⟨.list (ns.map PyData.int), .list (ms.map PyData.int), .lst (ex_l e3 h2) (dp_ints ns), .lst h3 (dp_ints ms), shaped_ints ns, shaped_ints ms, by
    show Q (.bl (PyData.eqvAll (ns.map PyData.int) (ms.map PyData.int))) H3
    rw [eqv_ints]
    exact q H3 (e2.trans e3)⟩
theorem ev_neI {ns ms : List Int} (ha : EvS K ta σ H (ns.map V.int)) (hb : EvS K tb σ H (ms.map V.int)) : Ev (tOp (rNeD K) ta tb) σ H (.bl (!decide (ns = ms))) := fun H1 e Q q =>
  ha H1 e _ fun p H2 e2 h2 => hb H2 (e.trans e2) _ fun r H3 e3 h3 => ⟨.list (ns.map PyData.int), .list (ms.map PyData.int), .lst (ex_l e3 h2) (dp_ints ns), .lst h3 (dp_ints ms), shaped_ints ns, shaped_ints ms, by
    show Q (.bl (!PyData.eqvAll (ns.map PyData.int) (ms.map PyData.int))) H3
    rw [eqv_ints]
    exact q H3 (e2.trans e3)⟩
theorem ev_ixS {i : Nat} {n : Int} {tl ti : TE} {v : V} (h : EvS K tl σ H xs) (hi : Ev ti σ H (.int n)) (ha : atI xs n = some v) : Ev (tOp (rIxL K) tl ti) σ H v := fun H1 e Q q =>
  h H1 e _ fun p H2 e2 h2 => hi H2 (e.trans e2) _ fun H3 e3 => ⟨p, xs, n, v, rfl, rfl, ex_l e3 h2, ha, q H3 (e2.trans e3)⟩
theorem el_slS {tl th : TO} {lo hi : Option Int} (h : EvS K te σ H xs) (h1 : EvO tl σ H lo) (h2 : EvO th σ H hi) : EvL (tSl (rSlL K) te tl th) σ H (cutV xs lo hi) := fun H1 e _ q =>
  h H1 e _ fun a H2 e2 hs => h1 H2 (e.trans e2) _ fun H3 e3 => h2 H3 ((e.trans e2).trans e3) _ fun H4 e4 =>
    ⟨a, xs, rfl, ex_l (e3.trans e4) hs, fun p hp => q p _ (fresh_back ((e2.trans e3).trans e4) hp) (((e2.trans e3).trans e4).trans (Ex.new hp)) upd_same⟩
theorem ev_at {n : Int} {tl ti : TE} {v : V} (h : EvS K tl σ H xs) (hi : Ev ti σ H (.int n)) (ha : atI xs n = some v) : Ev (tOp (rIxL K) tl ti) σ H v := ev_ixS (i := 0) h hi ha
theorem cut_to (xs : List V) (i : Nat) : cutV xs none (some (i : Int)) = xs.take i := by
  unfold cutV
  rw [HT.sIx_none, HT.sIx_nat, List.drop_zero, Nat.sub_zero]
  by_cases h : i ≤ xs.length
  · rw [Nat.min_eq_left h]
  · rw [Nat.min_eq_right (by omega), List.take_of_length_le (Nat.le_refl _), List.take_of_length_le (by omega)]
theorem cut_from (xs : List V) (i : Nat) : cutV xs (some (i : Int)) none = xs.drop i := by
  unfold cutV
  rw [HT.sIx_none, HT.sIx_nat]
  by_cases h : i ≤ xs.length
  · rw [Nat.min_eq_left h, List.take_of_length_le (by rw [List.length_drop]; omega)]
  · rw [Nat.min_eq_right (by omega), List.drop_of_length_le (Nat.le_refl _), List.drop_of_length_le (show xs.length ≤ i by omega), List.take_nil]
theorem cut_mid (xs : List V) (i j : Nat) : cutV xs (some (i : Int)) (some (j : Int)) = (xs.drop i).take (j - i) := by
  unfold cutV
  rw [HT.sIx_nat, HT.sIx_nat]
  by_cases h : i ≤ xs.length
  · rw [Nat.min_eq_left h]
    by_cases h2 : j ≤ xs.length
    · rw [Nat.min_eq_left h2]
    · rw [Nat.min_eq_right (by omega), List.take_of_length_le (by rw [List.length_drop]; omega), List.take_of_length_le (by rw [List.length_drop]; omega)]
  · rw [Nat.min_eq_right (by omega : xs.length ≤ i), List.drop_of_length_le (Nat.le_refl _), List.drop_of_length_le (show xs.length ≤ i by omega)]
    simp
theorem el_to {th : TE} {ns : List Int} {i : Nat} (h : EvS K te σ H (ns.map V.int)) (h2 : Ev th σ H (.int i)) : EvL (tSl (rSlL K) te tNoPart (tPart th)) σ H ((ns.take i).map V.int) :=
  EvL.is (el_slS h eo_none (eo_some h2)) (by rw [List.map_take]; exact cut_to _ i)
theorem el_from {th : TE} {ns : List Int} {i : Nat} (h : EvS K te σ H (ns.map V.int)) (h2 : Ev th σ H (.int i)) : EvL (tSl (rSlL K) te (tPart th) tNoPart) σ H ((ns.drop i).map V.int) :=
  EvL.is (el_slS h (eo_some h2) eo_none) (by rw [List.map_drop]; exact cut_from _ i)
theorem el_mid {t1 t2 : TE} {ns : List Int} {i j : Nat} (h : EvS K te σ H (ns.map V.int)) (h1 : Ev t1 σ H (.int i)) (h2 : Ev t2 σ H (.int j)) : EvL (tSl (rSlL K) te (tPart t1) (tPart t2)) σ H (((ns.drop i).take (j - i)).map V.int) :=
  EvL.is (el_slS h (eo_some h1) (eo_some h2)) (by rw [List.map_take, List.map_drop]; exact cut_mid _ i j)
section
variable {D : Ends} {tz : TS} {sp : Sp} {dvs vs : List V} {E : XK} {tA : TA}
/-- x = f(..), whatever f promises -/
theorem q_asgC {i : Nat} (h : EvA tA σ H vs) (k : ∀ H1, Ex H H1 → sp (vs ++ dvs) H1 (fun x H2 => tz D (σ.set i (some x)) H2) E) : tSeq (tAsg (tCall sp dvs E tA) (gName i)) tz D σ H := h H (Ex.refl H) _ fun H1 e => k H1 e
theorem s_asgC {i : Nat} (h : EvA tA σ H vs) (k : ∀ H1, Ex H H1 → sp (vs ++ dvs) H1 (fun x H2 => D.nx (σ.set i (some x)) H2) E) : tAsg (tCall sp dvs E tA) (gName i) D σ H := h H (Ex.refl H) _ fun H1 e => k H1 e
theorem q_dropC (h : EvA tA σ H vs) (k : ∀ H1, Ex H H1 → sp (vs ++ dvs) H1 (fun _ H2 => tz D σ H2) E) : tSeq (tDrop (tCall sp dvs E tA)) tz D σ H := h H (Ex.refl H) _ fun H1 e => k H1 e
theorem s_retC (h : EvA tA σ H vs) (k : ∀ H1, Ex H H1 → sp (vs ++ dvs) H1 D.rt E) : tRet (tCall sp dvs E tA) D σ H := h H (Ex.refl H) _ fun H1 e => k H1 e
end
theorem gl_get {ns : List Int} {i : Nat} (h : i < ns.length) : ns[i]? = some (ns.getD i 0) := by
  rw [List.getD_eq_getElem?_getD, List.getElem?_eq_getElem h]
  rfl
theorem q_asgRaw {te : TE} {i : Nat} {D : Ends} {tz : TS} (P : V → Hp → Prop) (h : ∀ Q : VK, (∀ x H2, P x H2 → Q x H2) → te σ H Q) (k : ∀ x H2, P x H2 → tz D (σ.set i (some x)) H2) : tSeq (tAsg te (gName i)) tz D σ H := h _ k
/-- a, b = a pair -/
theorem q_asgT {te : TE} {i j : Nat} {D : Ends} {tz : TS} (P : V → V → Hp → Prop) (h : ∀ Q : VK, (∀ t x y H2, P x y H2 → SqT K H2 t [x, y] → Q (.ref t) H2) → te σ H Q) (k : ∀ x y H2, P x y H2 → tz D ((σ.set i (some x)).set j (some y)) H2) :
    tSeq (tAsg te (gTup K 2 (gCons (gName i) (gCons (gName j) gNil)))) tz D σ H := h _ fun t x y H2 hP hT => ⟨t, [x, y], rfl, hT, rfl, x, [y], rfl, y, [], rfl, rfl, k x y H2 hP⟩
/-- the law's cell -/
def cellI (ns : List Int) (k : Int) : Int := ns.getD k.toNat 0
theorem cellI_in {ns : List Int} {k : Int} (h0 : 0 ≤ k) (h : k < ns.length) : ns[k.toNat]? = some (cellI ns k) := by
  unfold cellI
  rw [List.getD_eq_getElem?_getD, List.getElem?_eq_getElem (by omega)]
  rfl
theorem cellI_out {ns : List Int} {k : Int} (h : ¬ k < ns.length) : cellI ns k = 0 := by
  unfold cellI
  rw [List.getD_eq_getElem?_getD, List.getElem?_eq_none (by omega)]
  rfl
end
theorem Ex.get {H H' : Hp} {a : Addr} {o : HO} (e : Ex H H') (h : H a = some o) : H' a = some o := e a o h
local macro_rules | `(tactic| walk_at "hp") => `(tactic| first
  | assumption
  | exact upd_same
  | (refine' Ex.get (by assumption) ?h1; (case h1 => walk_at "hp")))
local macro_rules | `(tactic| walk_at "ex") => `(tactic| first
  | assumption
  | exact Ex.refl _
  | (refine' Ex.trans ?h1 (by assumption); (case h1 => walk_at "ex")))
local macro_rules | `(tactic| walk_at "sq") => `(tactic| first
  | assumption
  | (refine' sq_of ?h1; (case h1 => walk_at "hp"))
  | (refine' ex_l (by assumption) ?h1; (case h1 => walk_at "sq")))
local macro_rules | `(tactic| walk_at "evs") => `(tactic| first
  | (refine' Ev.s ?h1 ?h2; (case h1 => exact ev_var rfl); (case h2 => walk_at "sq"))
  | (refine' EvR.s ?h1; (case h1 => walk_at "evr")))
local macro_rules | `(tactic| walk_at "evr") => `(tactic| first
  | (refine' Ev.r ?h1 ?h2; (case h1 => exact ev_var rfl); (case h2 => walk_at "hp"))
  | (refine' EvL.r ?h1; (case h1 => walk_at "el")))
local macro_rules | `(tactic| walk_at "eo") => `(tactic| first
  | exact eo_none
  | (refine' eo_some ?h1; (case h1 => walk_at "ev")))
local macro_rules | `(tactic| walk_at "el") => `(tactic| first
  | (refine' el_lst ?h1 ?h2; (case h1 => walk_at "ea"); (case h2 => exact Nat.le_of_ble_eq_true rfl))
  | (refine' el_cat ?h1 ?h2 ?h3; (case h1 => walk_at "evr"); (case h2 => walk_at "evr"); (case h3 => walk_at "len"))
  | (refine' el_rep ?h1 ?h2 ?h3 ?h4; (case h1 => walk_at "evr"); (case h2 => walk_at "ev"); (case h3 => walk_at "side2"); (case h4 => walk_at "len"))
  | (refine' el_of ?h1; (case h1 => walk_at "evs"))
  | (refine' el_to ?h1 ?h2; (case h1 => walk_at "evs"); (case h2 => walk_at "ev"))
  | (refine' el_from ?h1 ?h2; (case h1 => walk_at "evs"); (case h2 => walk_at "ev"))
  | (refine' el_mid ?h1 ?h2 ?h3; (case h1 => walk_at "evs"); (case h2 => walk_at "ev"); (case h3 => walk_at "ev"))
  | (refine' el_slS ?h1 ?h2 ?h3; (case h1 => walk_at "evs"); (case h2 => walk_at "eo"); (case h3 => walk_at "eo"))
  | walk_at "elmore")
local macro_rules | `(tactic| walk_at "evmore") => `(tactic| first
  | (refine' ev_lenS ?h1; (case h1 => walk_at "evs"))
  | (refine' ev_sum ?h1; (case h1 => walk_at "evs"))
  | (refine' ev_eqI ?h1 ?h2; (case h1 => walk_at "evs"); (case h2 => walk_at "evs"))
  | (refine' ev_neI ?h1 ?h2; (case h1 => walk_at "evs"); (case h2 => walk_at "evs"))
  | (refine' ev_at ?h1 ?h2 ?h3; (case h1 => walk_at "evs"); (case h2 => walk_at "ev"); (case h3 => walk_at "at"))
  | (refine' ev_isiL ?h1 ?h2; (case h1 => walk_at "ev"); (case h2 => walk_at "hp"))
  | walk_at "evown")
local macro_rules | `(tactic| walk_at "at") => `(tactic| first
  | exact at_of rfl (at_int (by assumption))
  | exact at_of rfl (by assumption))
local macro_rules | `(tactic| walk_at "asgL") => `(tactic| (refine' q_asgL ?h ?h1; (case h => walk_at "el")))
local macro_rules | `(tactic| walk_at "retL") => `(tactic| (refine' s_retL ?h ?h1; (case h => walk_at "el")))

/-- a walk's reading said in other words -/
theorem PI.k {X : Cx} {tg e : Expr} {wi wi' : TI} (h : PI X tg e wi) (q : wi = wi') : PI X tg e wi' := q ▸ h
/-! ### comprehensions whose items are said in a list -/
theorem et_yes {σ : L2.St} {H : Hp} : EvT tYes σ H true := fun H1 _ _ q => q H1 (Ex.refl H1)
section
variable {K : PySem.W.Frag} {σ : L2.St} {H : Hp} {t1 t2 te : TE} {xs ys zs : List V} {vs : List Nat}
theorem take_snoc {zs : List V} {i : Nat} {z : V} (h : zs[i]? = some z) : zs.take (i + 1) = zs.take i ++ [z] := by
  rw [List.take_add_one, h]
  rfl
theorem el_lcZ {j1 j2 : Nat} (zs : List V) (h1 : EvS K t1 σ H xs) (h2 : EvS K t2 σ H ys) (hz : zs.length = min xs.length ys.length) (hb : zs.length ≤ 50000)
    (hw : ∀ x y, wipe (((wipe σ vs).set j1 (some x)).set j2 (some y)) vs = wipe σ vs)
    (he : ∀ (i : Nat) (x y : V) H1, Ex H H1 → xs[i]? = some x → ys[i]? = some y → ∃ z, zs[i]? = some z ∧ Ev te (((wipe σ vs).set j1 (some x)).set j2 (some y)) H1 z) :
    EvL (tLc (iZip K (tCons t1 (tCons t2 tNil))) (gTup K 2 (gCons (gName j1) (gCons (gName j2) gNil))) tYes te vs) σ H zs := fun H0 e Q q =>
  h1 H0 e _ fun p H1 e1 hp => h2 H1 (e.trans e1) _ fun r H2 e2 hr => ⟨p, r, xs, ys, rfl, ex_l e2 hp, hr, fun D hD =>
    ⟨fun i m H' => m = zs.length - i ∧ i ≤ zs.length ∧ Ex H2 H' ∧ H' D = some (.lst (zs.take i)), ⟨zs.length, rfl, Nat.zero_le _, Ex.new hD, upd_same⟩, by
      rintro i m H' ⟨rfl, hi, ex, hd⟩
      have qx : SqL K H' p xs := ex_l (e2.trans ex) hp
      have qy : SqL K H' r ys := ex_l ex hr
      by_cases hlt : i < zs.length
      · have hx : xs[i]? = some xs[i] := List.getElem?_eq_getElem (by omega)
        have hy : ys[i]? = some ys[i] := List.getElem?_eq_getElem (by omega)
        refine .inr ⟨⟨xs, ys, _, _, qx, qy, hx, hy⟩, fun H3 => i + 1 ≤ zs.length ∧ Ex H2 H3 ∧ H3 D = some (.lst (zs.take (i + 1))), fun H3 h3 => ⟨zs.length - (i + 1), by omega, rfl, h3⟩, fun v H3 hv => ?_⟩
        obtain ⟨T, x, y, rfl, hT, rfl, f1, f2⟩ := hv
        have ex3 : Ex H' (upd H' T (.tup [x, y])) := Ex.new hT
        obtain ⟨z, hz1, hz2⟩ := he i x y (upd H' T (.tup [x, y])) ((((e.trans e1).trans e2).trans ex).trans ex3) (f1 _ qx) (f2 _ qy)
        refine ⟨T, [x, y], rfl, st_of upd_same, rfl, x, [y], rfl, y, [], rfl, rfl, hw x y, ?_⟩
        refine hz2 _ (Ex.refl _) _ fun H4 e4 => ⟨zs.take i, e4 _ _ (ex3 _ _ hd), sz_lt (by rw [List.length_take]; omega), hlt, ?_, ?_⟩
        · exact Ex.mut ((ex.trans ex3).trans e4) hD
        · rw [upd_same, take_snoc hz1]
      · have ei : i = zs.length := by omega
        refine .inl ⟨⟨xs, ys, qx, qy, by omega⟩, ?_⟩
        rw [ei, List.take_length] at hd
        exact q D H' (fresh_back (e1.trans e2) hD) ((e1.trans e2).trans ex) hd⟩⟩
/-- over a list, each item kept -/
theorem el_lcS {j : Nat} (zs : List V) (h1 : EvS K t1 σ H xs) (hz : zs.length = xs.length) (hb : zs.length ≤ 50000) (hw : ∀ x, wipe ((wipe σ vs).set j (some x)) vs = wipe σ vs)
    (he : ∀ (i : Nat) (x : V) H1, Ex H H1 → xs[i]? = some x → ∃ z, zs[i]? = some z ∧ Ev te ((wipe σ vs).set j (some x)) H1 z) :
    EvL (tLc (iList K t1) (gName j) tYes te vs) σ H zs := fun H0 e Q q =>
  h1 H0 e _ fun p H1 e1 hp => ⟨p, rfl, ⟨xs, hp⟩, fun D hD => lc_list (xs := xs) (fun i H' => Ex H1 H' ∧ H' D = some (.lst (zs.take i))) ⟨Ex.new hD, upd_same⟩ (fun i H' _ h => ex_l h.1 hp)
    (fun i x H' hi h => ⟨hw x, by
      obtain ⟨z, hz1, hz2⟩ := he i x H' ((e.trans e1).trans h.1) hi
      have hl : i < xs.length := (List.getElem?_eq_some_iff.mp hi).1
      refine hz2 H' (Ex.refl _) _ fun H4 e4 => ⟨zs.take i, e4 _ _ h.2, sz_lt (by rw [List.length_take]; omega), Ex.mut (h.1.trans e4) hD, ?_⟩
      rw [upd_same, take_snoc hz1]⟩)
    (fun H' h => q D H' (fresh_back e1 hD) (e1.trans h.1) (by rw [h.2, ← hz, List.take_length]))⟩
/-- over range(n) -/
theorem el_lcR {ta : TA} {n : Int} {j : Nat} (zs : List V) (h1 : EvA ta σ H [.int n]) (hn : -100000 ≤ n) (hz : zs.length = n.toNat) (hb : zs.length ≤ 50000) (hw : ∀ x, wipe ((wipe σ vs).set j (some x)) vs = wipe σ vs)
    (he : ∀ (i : Nat) H1, Ex H H1 → i < zs.length → ∃ z, zs[i]? = some z ∧ Ev te ((wipe σ vs).set j (some (.int (i : Int)))) H1 z) :
    EvL (tLc (iRng1 ta) (gName j) tYes te vs) σ H zs := fun H0 e Q q =>
  h1 H0 e _ fun H1 e1 => ⟨n, rfl, by omega, by omega, fun D hD => lc_range (lo := 0) (n := n.toNat) (fun i H' => Ex H1 H' ∧ H' D = some (.lst (zs.take i))) ⟨Ex.new hD, upd_same⟩
    (fun i H' hi h => by
      have e0 : (0 : Int) + (i : Int) = (i : Int) := Int.zero_add _
      rw [e0]
      obtain ⟨z, hz1, hz2⟩ := he i H' ((e.trans e1).trans h.1) (by omega)
      refine ⟨hw _, hz2 H' (Ex.refl _) _ fun H4 e4 => ⟨zs.take i, e4 _ _ h.2, sz_lt (by rw [List.length_take]; omega), Ex.mut (h.1.trans e4) hD, ?_⟩⟩
      rw [upd_same, take_snoc hz1])
    (fun H' h => q D H' (fresh_back e1 hD) (e1.trans h.1) (by rw [h.2, show n.toNat = zs.length by omega, List.take_length]))⟩
/-- y = [.. for x in f(..)], whatever f promises -/
theorem s_asgLC {sp : Sp} {dvs args : List V} {E : XK} {ta : TA} {g : TG} {tt : TT} {D : Ends} {i : Nat} (h : EvA ta σ H args) (k : ∀ H1, Ex H H1 → sp (args ++ dvs) H1 (fun x H2 => tAsg (tLc (iList K (tC x)) g tt te vs) (gName i) D σ H2) E) :
    tAsg (tLc (iList K (tCall sp dvs E ta)) g tt te vs) (gName i) D σ H := h H (Ex.refl H) _ fun H1 e => k H1 e
theorem q_asgLC {sp : Sp} {dvs args : List V} {E : XK} {ta : TA} {g : TG} {tt : TT} {D : Ends} {i : Nat} {tz : TS} (h : EvA ta σ H args) (k : ∀ H1, Ex H H1 → sp (args ++ dvs) H1 (fun x H2 => tSeq (tAsg (tLc (iList K (tC x)) g tt te vs) (gName i)) tz D σ H2) E) :
    tSeq (tAsg (tLc (iList K (tCall sp dvs E ta)) g tt te vs) (gName i)) tz D σ H := h H (Ex.refl H) _ fun H1 e => k H1 e
theorem s_retLC {sp : Sp} {dvs args : List V} {E : XK} {ta : TA} {g : TG} {tt : TT} {D : Ends} (h : EvA ta σ H args) (k : ∀ H1, Ex H H1 → sp (args ++ dvs) H1 (fun x H2 => tRet (tLc (iList K (tC x)) g tt te vs) D σ H2) E) :
    tRet (tLc (iList K (tCall sp dvs E ta)) g tt te vs) D σ H := h H (Ex.refl H) _ fun H1 e => k H1 e
end

/-! ### data at any depth -/
mutual
theorem dp_ex {K : PySem.W.Frag} {H H' : Hp} (e : Ex H H') : ∀ (d : PyData) (v : V), Dp K H v d → Dp K H' v d
  | .none, _, h => by cases h; exact .non
  | .bool b, _, h => by cases h; exact .bl b
  | .int i, _, h => by cases h; exact .int i
  | .str x, _, h => by cases h; exact .str x
  | .list ds, _, h => by cases h with | lst hs ha => exact .lst (ex_l e hs) (dpa_ex e ds _ ha)
  | .tuple ds, _, h => by cases h with | tup hs ha => exact .tup (ex_t e hs) (dpa_ex e ds _ ha)
  | .dict _, _, h => by cases h
theorem dpa_ex {K : PySem.W.Frag} {H H' : Hp} (e : Ex H H') : ∀ (ds : List PyData) (vs : List V), DpAll K H vs ds → DpAll K H' vs ds
  | [], _, h => by cases h; exact .nil
  | d :: ds, _, h => by cases h with | cons h1 h2 => exact .cons (dp_ex e d _ h1) (dpa_ex e ds _ h2)
end
def EvD (K : PySem.W.Frag) (te : TE) (σ : L2.St) (H : Hp) (d : PyData) : Prop := ∀ H1, Ex H H1 → ∀ Q : VK, (∀ v H2, Ex H1 H2 → Dp K H2 v d → Q v H2) → te σ H1 Q
section
variable {K : PySem.W.Frag} {σ : L2.St} {H : Hp} {te ta tb t1 t2 t3 : TE} {d d1 d2 d3 : PyData} {v : V}
theorem EvD.of (h : Ev te σ H v) (hd : Dp K H v d) : EvD K te σ H d := fun H1 e Q q => h H1 e _ fun H2 e2 => q v H2 e2 (dp_ex (e.trans e2) d v hd)
theorem EvS.toD {ns : List Int} (h : EvS K te σ H (ns.map V.int)) : EvD K te σ H (.list (ns.map .int)) := fun H1 e Q q => h H1 e _ fun p H2 e2 hp => q (.ref p) H2 e2 (.lst hp (dp_ints ns))
theorem ed_tup2 (h1 : EvD K t1 σ H d1) (h2 : EvD K t2 σ H d2) : EvD K (tTup (tCons t1 (tCons t2 tNil))) σ H (.tuple [d1, d2]) := fun H1 e Q q => h1 H1 e _ fun v H2 e2 hv => h2 H2 (e.trans e2) _ fun u H3 e3 hu =>
  ⟨sz_of (show 2 ≤ 100000 by decide), fun p hp => q (.ref p) _ ((e2.trans e3).trans (Ex.new hp)) (.tup (st_of upd_same) (.cons (dp_ex (e3.trans (Ex.new hp)) _ _ hv) (.cons (dp_ex (Ex.new hp) _ _ hu) .nil)))⟩
theorem ev_eqDD (h1 : EvD K ta σ H d) (h2 : EvD K tb σ H d) (hs : SeqAt.shaped d = true) : Ev (tOp (rEqD K) ta tb) σ H (.bl true) := fun H1 e Q q => h1 H1 e _ fun v H2 e2 hv => h2 H2 (e.trans e2) _ fun u H3 e3 hu =>
  ⟨d, d, dp_ex e3 d v hv, hu, hs, hs, by rw [SeqAt.eqv_refl d (SeqAt.canLay_of_shaped hs)]; exact q H3 (e2.trans e3)⟩
theorem ev_neDD (h1 : EvD K ta σ H d) (h2 : EvD K tb σ H d) (hs : SeqAt.shaped d = true) : Ev (tOp (rNeD K) ta tb) σ H (.bl false) := fun H1 e Q q => h1 H1 e _ fun v H2 e2 hv => h2 H2 (e.trans e2) _ fun u H3 e3 hu =>
  ⟨d, d, dp_ex e3 d v hv, hu, hs, hs, by rw [SeqAt.eqv_refl d (SeqAt.canLay_of_shaped hs)]; exact q H3 (e2.trans e3)⟩
end
theorem shaped_pair (ns ms : List Int) : SeqAt.shaped (.tuple [.list (ns.map .int), .list (ms.map .int)]) = true := by
  unfold SeqAt.shaped
  have h1 := canLay_ints ns
  have h2 := depth_ints ns
  have h3 := canLay_ints ms
  have h4 := depth_ints ms
  rw [Bool.and_eq_true, decide_eq_true_iff]
  refine ⟨by simp only [PyData.canLay0, PyData.canLayAll0, h1, h3, Bool.and_self], ?_⟩
  simp only [PyData.depth, PyData.depthAll]
  omega

/-! ### calls with keywords, defaults -/
theorem kwAllN {K : PySem.W.Frag} {D : Addr} : ∀ p ∈ ([] : List (Str × V)), ∃ u, PySem.W.nsIn K D p.1 = some (some u) ∧ RelV p.2 u := fun p hp => by cases hp
theorem kwAllC {K : PySem.W.Frag} {D : Addr} {q : Str × V} {l : List (Str × V)} (h : ∃ u, PySem.W.nsIn K D q.1 = some (some u) ∧ RelV q.2 u) (hl : ∀ p ∈ l, ∃ u, PySem.W.nsIn K D p.1 = some (some u) ∧ RelV p.2 u) : ∀ p ∈ q :: l, ∃ u, PySem.W.nsIn K D p.1 = some (some u) ∧ RelV p.2 u := fun p hp => by
  rcases List.mem_cons.mp hp with rfl | hp
  · exact h
  · exact hl p hp
theorem kwAll1 {K : PySem.W.Frag} {D : Addr} {q : Str × V} (h : ∃ u, PySem.W.nsIn K D q.1 = some (some u) ∧ RelV q.2 u) : ∀ p ∈ [q], ∃ u, PySem.W.nsIn K D p.1 = some (some u) ∧ RelV p.2 u := fun p hp => by
  rcases List.mem_cons.mp hp with rfl | hp
  · exact h
  · cases hp
section
variable {K : PySem.W.Frag} {x qual : Str} {params : Arguments} {body : List Stmt} {scope : Scope} {dvs : List V} {kws : List (Str × V)} {f : Addr} {fd : FuncData} {ps : List Str}
/-- f(a, .., k = v, ..), nothing left to a default, no defaults of place -/
theorem fund_kb0 {g : List Value → List Value → List Value} {gV : List V → List V → List V} (F : FunD K x qual params body scope [] kws f fd) (n : Nat) (ks : List Str)
    (hrel : ∀ {vs : List V} {us : List Value} {zs : List V} {ws : List Value}, Vals vs us → Vals zs ws → Vals (gV vs zs) (g us ws))
    (h : ∀ (kV doc pm : Value) (an : Option Addr) (cdv ct : Value) (us ws : List Value), us.length = n → ws.length = ks.length → bindArgs (PySem.W.fnOf x qual params body scope .none kV doc pm an cdv ct) ⟨us, ks.zip ws⟩ = pure (ps.zip (g us ws))) :
    KBn K fd ps n ks g gV := by
  obtain ⟨oc, od, dV, kV, doc, pm, an, cdv, ct, osl, rfl, lk, hcd, hD, hK⟩ := F.ex
  rcases hD with ⟨_, rfl⟩ | ⟨e, _⟩
  · exact ⟨fun s us ws X l1 l2 => .of_eq (h kV doc pm an cdv ct us ws l1 l2), hrel⟩
  · exact absurd rfl e
/-- the same of a def with defaults of place -/
theorem fund_kb1 {g : List Value → List Value → List Value} {gV : List V → List V → List V} (F : FunD K x qual params body scope dvs kws f fd) (hd : dvs ≠ []) (n : Nat) (ks : List Str)
    (hrel : ∀ {vs : List V} {us : List Value} {zs : List V} {ws : List Value}, Vals vs us → Vals zs ws → Vals (gV vs zs) (g us ws))
    (h : ∀ (T : Addr) (kV doc pm : Value) (an : Option Addr) (cdv ct : Value) (us its ws : List Value), us.length = n → its.length = dvs.length → ws.length = ks.length →
      ∃ k, bindArgs (PySem.W.fnOf x qual params body scope (.ref T) kV doc pm an cdv ct) ⟨us, ks.zip ws⟩ = seqItems? (.ref T) >>= k ∧ k (some its.toArray) = pure (ps.zip (g us ws))) :
    KBn K fd ps n ks g gV := by
  obtain ⟨oc, od, dV, kV, doc, pm, an, cdv, ct, osl, rfl, lk, hcd, hD, hK⟩ := F.ex
  rcases hD with ⟨e, _⟩ | ⟨_, T, o, its, m, rfl, lT, oT, rT⟩
  · exact absurd e hd
  · refine ⟨fun s us ws X l1 l2 => ?_, hrel⟩
    obtain ⟨k, e1, e2⟩ := h T kV doc pm an cdv ct us its ws l1 rT.length.symm l2
    refine BindsTo.of_looks fun M => ?_
    rw [e1]
    exact looks_items X lT oT (.of_pure e2)
end

/-! ### x == y by x's own method -/
def rEqO (C : Addr) (sp : Sp) (E : XK) (K : PySem.W.Frag) : R2 := fun x y H Q => ∃ (a dx : Addr) (fs : List (Str × V)) (t : Value), x = .ref a ∧ H a = some (.ins C dx fs) ∧ TyX K H y t ∧ PySem.W.notFirst K C t = true ∧ sp [.ref a, y] H (fun v H' => (∃ b, v = .bl b) ∧ Q v H') E
structure TyC (K : PySem.W.Frag) (C : Addr) : Prop where
  ha : PySem.W.findIn K (.ref C) "__class__" = some (some (.builtin "object.__class__"))
  hn : PySem.W.specialIn K (.builtin "object.__class__") "__get__" = some (some (.builtin "getset_descriptor.__get__"))
  ht : PySem.W.takesIn K (.builtin "object.__class__") = some true
  hm : PySem.W.mroIn K C (.type "object") = some true
theorem TyC.ins {K : PySem.W.Frag} {C : Addr} (t : TyC K C) (c : Cls K C) {H : Hp} {a dx : Addr} {fs : List (Str × V)} (h : H a = some (.ins C dx fs)) : ∀ H1, Ex H H1 → TyX K H1 (.ref a) (.ref C) := fun H1 e => .base (.ins (e _ _ h) c t.ha t.hn t.ht t.hm)
/-- isinstance(x, C), C an own class -/
theorem ev_isiO {K : PySem.W.Frag} {σ : L2.St} {H : Hp} {ta : TE} {x : V} {t : Value} {C : Addr} {b : Bool} (ha : Ev ta σ H x) (ht : ∀ H1, Ex H H1 → TyX K H1 x t) (hk : PySem.W.kitOne K t (.ref C) = some b) : Ev (tCB (rIsi K) (tCons ta (tCons (tC (.ref C)) tNil))) σ H (.bl b) :=
  ev_cb (ea_cons ha (ea_cons ev_c ea_nil)) fun H1 e Q q => ⟨x, .ref C, t, _, b, rfl, .own C, ht H1 e, hk, q H1 (Ex.refl H1)⟩
theorem ev_eqO {K : PySem.W.Frag} {σ : L2.St} {H : Hp} {ta tb : TE} {C a dx : Addr} {fs : List (Str × V)} {y : V} {t : Value} {sp : Sp} {E : XK} {b : Bool} (ha : Ev ta σ H (.ref a)) (hx : H a = some (.ins C dx fs)) (hb : Ev tb σ H y) (ht : ∀ H1, Ex H H1 → TyX K H1 y t) (hn : PySem.W.notFirst K C t = true) (hs : SpV sp [.ref a, y] H (.bl b)) : Ev (tOp (rEqO C sp E K) ta tb) σ H (.bl b) := fun H1 e Q q =>
  ha H1 e _ fun H2 e2 => hb H2 (e.trans e2) _ fun H3 e3 => ⟨a, dx, fs, t, rfl, ((e.trans e2).trans e3) _ _ hx, ht H3 ((e.trans e2).trans e3), hn, hs H3 ((e.trans e2).trans e3) _ (fun H4 e4 => ⟨⟨b, rfl⟩, q H4 ((e2.trans e3).trans e4)⟩) E⟩
theorem op_eqO {X : Cx} {CX : CXT} {C f : Addr} {fd : FuncData} {ps : List Str} {sp : Sp} {E : XK} {n : Nat} (F : FnOk X.prog X.w X.K X.mg X.base CX n f fd ps sp) (hs : PySem.W.findIn X.K (.ref C) "__eq__" = some (some (.ref f))) (hf : PySem.W.isFn X.K (.ref f) = true)
    (hb : Binds X.K fd ps []) (hx : Passes CX X E) (hr : Room n X.A) : OpR X (compareOp .Eq) (rEqO C sp E X.K) := by
  intro pins s σ H x y v u Q I rx ry hq
  obtain ⟨a, dx, fs, t, rfl, ha, ty, hn, hsp⟩ := hq
  cases rx
  obtain ⟨mA, J, _⟩ := ins_get I.hok ha
  obtain ⟨od, J, _⟩ := J.look
  obtain ⟨Pt, Z, hP, _⟩ := kit_of I ry ty
  obtain ⟨m, hF⟩ := I.fr
  show wpAny (model X.prog X.w) X.A (richCompare .Eq (.ref a) u) (EP X pins σ Q) X.xe s
  refine PySem.W.cmp_K (op := .Eq) (tb := t) hr.units0 hF I.ok.mod.kin J (Z.ty _ _ I.kIn hP) hn hs hf ?_
  have hl := F.len _ _ _ _ hsp
  have r2 : Vals [V.ref a, y] [Value.ref a, u] := .cons rfl (.cons ry .nil)
  refine wpAny_call (codeAny_mono (F.run X.A X.stack s H ⟨[.ref a, u], []⟩ [.ref a, u] [.ref a, y] _ E hr I.env0 (by
    have := hb s [.ref a, u] I.kIn (by simpa using hl)
    simpa using this) r2 hsp) fun r s' hq => ?_)
  cases r with
  | error e => exact hx pins σ H s e s' I hq
  | ok fl =>
    cases fl with
    | ret w =>
      obtain ⟨z, H', I', rz, ⟨b, ez⟩, q⟩ := I.after hq
      subst ez
      cases rz
      exact ⟨.bl b, H', I', rfl, q⟩
    | next => exact False.elim hq
    | brk => exact False.elim hq
    | cont => exact False.elim hq
theorem kit_cls' {K : PySem.W.Frag} {C : Addr} {t : Value} (hd : PySem.W.hasDictIn K C = true) (ht : PySem.W.typeIn K (.ref C) = some (.type "type")) (hs : PySem.W.subIn K t (.ref C) = some false) (hn : (t == Value.ref C) = false) : PySem.W.kitOne K t (.ref C) = some false ∧ PySem.W.notFirst K C t = true := by
  obtain ⟨cd, hc, _⟩ := PySem.W.any_some hd
  refine ⟨?_, ?_⟩
  · unfold PySem.W.kitOne PySem.W.kitCls
    rw [hn, if_neg (by decide)]
    show (if ((PySem.W.clsIn K C).isSome && PySem.W.typeIn K (.ref C) == some (.type "type")) = true then PySem.W.subIn K t (.ref C) else none) = _
    rw [hc, ht, if_pos (by simp), hs]
  · unfold PySem.W.notFirst
    rw [hs, hn]
    simp
theorem kit_ty {K : PySem.W.Frag} {C : Addr} {T : String} (hd : PySem.W.hasDictIn K C = true) (ht : PySem.W.typeIn K (.ref C) = some (.type "type")) (hs : PySem.W.subIn K (.type T) (.ref C) = some false) : PySem.W.kitOne K (.type T) (.ref C) = some false ∧ PySem.W.notFirst K C (.type T) = true := kit_cls' hd ht hs rfl
theorem kit_self {K : PySem.W.Frag} {C : Addr} : PySem.W.kitOne K (.ref C) (.ref C) = some true ∧ PySem.W.notFirst K C (.ref C) = true := by
  refine ⟨?_, ?_⟩
  · unfold PySem.W.kitOne
    rw [if_pos (by simp)]
  · unfold PySem.W.notFirst
    simp
theorem kit_ref {K : PySem.W.Frag} {C D : Addr} (hd : PySem.W.hasDictIn K C = true) (ht : PySem.W.typeIn K (.ref C) = some (.type "type")) (hz : PySem.W.subIn K (.ref C) (.ref C) = some true) (hs : PySem.W.subIn K (.ref D) (.ref C) = some false) : PySem.W.kitOne K (.ref D) (.ref C) = some false ∧ PySem.W.notFirst K C (.ref D) = true :=
  kit_cls' hd ht hs (by
    cases h : (Value.ref D == Value.ref C) with
    | false => rfl
    | true =>
      have e := eq_of_beq h
      injection e with e
      subst e
      rw [hz] at hs
      cases hs)

set_option genInjectivity false
set_option genSizeOf false
/-- what the top has left -/
structure TX (K : PySem.W.Frag) (mg : Str → Option Value) where
  a_MonochordError_init : Addr
  d_MonochordError_init : FuncData
  F_MonochordError_init : Fun K "__init__" "MonochordError.__init__" s_MonochordError_init a_MonochordError_init d_MonochordError_init
  b_MonochordError_init : Binds K d_MonochordError_init ["self", "place"] []
  a_write_utf8 : Addr
  d_write_utf8 : FuncData
  F_write_utf8 : Fun K "write_utf8" "write_utf8" s_write_utf8 a_write_utf8 d_write_utf8
  b_write_utf8 : Binds K d_write_utf8 ["text"] []
  g_write_utf8 : mg "write_utf8" = some (.ref a_write_utf8)
  a_read_utf8 : Addr
  d_read_utf8 : FuncData
  F_read_utf8 : Fun K "read_utf8" "read_utf8" s_read_utf8 a_read_utf8 d_read_utf8
  b_read_utf8 : Binds K d_read_utf8 ["data", "start", "stop"] []
  g_read_utf8 : mg "read_utf8" = some (.ref a_read_utf8)
  a_point_count : Addr
  d_point_count : FuncData
  F_point_count : Fun K "_point_count" "_point_count" s_point_count a_point_count d_point_count
  b_point_count : Binds K d_point_count ["point"] []
  g_point_count : mg "_point_count" = some (.ref a_point_count)
  a_least_first : Addr
  d_least_first : FuncData
  F_least_first : Fun K "_least_first" "_least_first" s_least_first a_least_first d_least_first
  b_least_first : Binds K d_least_first ["count"] []
  g_least_first : mg "_least_first" = some (.ref a_least_first)
  a_point_bytes : Addr
  d_point_bytes : FuncData
  F_point_bytes : Fun K "_point_bytes" "_point_bytes" s_point_bytes a_point_bytes d_point_bytes
  b_point_bytes : Binds K d_point_bytes ["point"] []
  g_point_bytes : mg "_point_bytes" = some (.ref a_point_bytes)
  a_count_told : Addr
  d_count_told : FuncData
  F_count_told : Fun K "_count_told" "_count_told" s_count_told a_count_told d_count_told
  b_count_told : Binds K d_count_told ["first"] []
  g_count_told : mg "_count_told" = some (.ref a_count_told)
  a_read_point : Addr
  d_read_point : FuncData
  F_read_point : Fun K "_read_point" "_read_point" s_read_point a_read_point d_read_point
  b_read_point : Binds K d_read_point ["data", "place", "count"] []
  g_read_point : mg "_read_point" = some (.ref a_read_point)
  a_little_bytes : Addr
  d_little_bytes : FuncData
  F_little_bytes : Fun K "little_bytes" "little_bytes" s_little_bytes a_little_bytes d_little_bytes
  b_little_bytes : Binds K d_little_bytes ["number", "count"] []
  g_little_bytes : mg "little_bytes" = some (.ref a_little_bytes)
  a_little_number : Addr
  d_little_number : FuncData
  F_little_number : Fun K "little_number" "little_number" s_little_number a_little_number d_little_number
  b_little_number : Binds K d_little_number ["data", "place", "count"] []
  g_little_number : mg "little_number" = some (.ref a_little_number)
  a_check_inside : Addr
  d_check_inside : FuncData
  F_check_inside : Fun K "check_inside" "check_inside" s_check_inside a_check_inside d_check_inside
  b_check_inside : Binds K d_check_inside ["place", "count", "stop"] []
  g_check_inside : mg "check_inside" = some (.ref a_check_inside)
  a_Comments_init : Addr
  d_Comments_init : FuncData
  F_Comments_init : Fun K "__init__" "Comments.__init__" s_Comments_init a_Comments_init d_Comments_init
  b_Comments_init : Binds K d_Comments_init ["self", "vendor", "entries"] []
  a_read_comments : Addr
  d_read_comments : FuncData
  F_read_comments : Fun K "read_comments" "read_comments" s_read_comments a_read_comments d_read_comments
  b_read_comments : Binds K d_read_comments ["data", "start", "stop"] []
  g_read_comments : mg "read_comments" = some (.ref a_read_comments)
  a_write_comments : Addr
  d_write_comments : FuncData
  F_write_comments : Fun K "write_comments" "write_comments" s_write_comments a_write_comments d_write_comments
  b_write_comments : Binds K d_write_comments ["comments"] []
  g_write_comments : mg "write_comments" = some (.ref a_write_comments)
  a_read_length : Addr
  d_read_length : FuncData
  F_read_length : Fun K "_read_length" "_read_length" s_read_length a_read_length d_read_length
  b_read_length : Binds K d_read_length ["data", "place", "stop"] []
  g_read_length : mg "_read_length" = some (.ref a_read_length)
  a_read_entry : Addr
  d_read_entry : FuncData
  F_read_entry : Fun K "_read_entry" "_read_entry" s_read_entry a_read_entry d_read_entry
  b_read_entry : Binds K d_read_entry ["data", "place", "stop"] []
  g_read_entry : mg "_read_entry" = some (.ref a_read_entry)
  a_law_is_integer : Addr
  d_law_is_integer : FuncData
  F_law_is_integer : Fun K "_law_is_integer" "_law_is_integer" s_law_is_integer a_law_is_integer d_law_is_integer
  b_law_is_integer : Binds K d_law_is_integer ["actual"] []
  g_law_is_integer : mg "_law_is_integer" = some (.ref a_law_is_integer)
  a_law_refill : Addr
  d_law_refill : FuncData
  F_law_refill : Fun K "_law_refill" "_law_refill" s_law_refill a_law_refill d_law_refill
  b_law_refill : Binds K d_law_refill ["script", "k"] []
  g_law_refill : mg "_law_refill" = some (.ref a_law_refill)
  a_law_draw : Addr
  d_law_draw : FuncData
  F_law_draw : Fun K "_law_draw" "_law_draw" s_law_draw a_law_draw d_law_draw
  b_law_draw : Binds K d_law_draw ["state", "script", "size"] []
  g_law_draw : mg "_law_draw" = some (.ref a_law_draw)
  a_law_junk : Addr
  d_law_junk : FuncData
  F_law_junk : Fun K "_law_junk" "_law_junk" s_law_junk a_law_junk d_law_junk
  b_law_junk : Binds K d_law_junk ["state", "script", "count"] []
  g_law_junk : mg "_law_junk" = some (.ref a_law_junk)
  a_law_text : Addr
  d_law_text : FuncData
  F_law_text : Fun K "_law_text" "_law_text" s_law_text a_law_text d_law_text
  b_law_text : Binds K d_law_text ["state", "script", "most"] []
  g_law_text : mg "_law_text" = some (.ref a_law_text)
  a_law_name : Addr
  d_law_name : FuncData
  F_law_name : Fun K "_law_name" "_law_name" s_law_name a_law_name d_law_name
  b_law_name : Binds K d_law_name ["state", "script"] []
  g_law_name : mg "_law_name" = some (.ref a_law_name)
  a_law_entries : Addr
  d_law_entries : FuncData
  F_law_entries : Fun K "_law_entries" "_law_entries" s_law_entries a_law_entries d_law_entries
  b_law_entries : Binds K d_law_entries ["state", "script", "most"] []
  g_law_entries : mg "_law_entries" = some (.ref a_law_entries)
  a_law_utf8 : Addr
  d_law_utf8 : FuncData
  F_law_utf8 : Fun K "_law_utf8" "_law_utf8" s_law_utf8 a_law_utf8 d_law_utf8
  b_law_utf8 : Binds K d_law_utf8 ["text"] []
  g_law_utf8 : mg "_law_utf8" = some (.ref a_law_utf8)
  a_law_little : Addr
  d_law_little : FuncData
  F_law_little : Fun K "_law_little" "_law_little" s_law_little a_law_little d_law_little
  b_law_little : Binds K d_law_little ["number"] []
  g_law_little : mg "_law_little" = some (.ref a_law_little)
  a_law_comment_bytes : Addr
  d_law_comment_bytes : FuncData
  F_law_comment_bytes : Fun K "_law_comment_bytes" "_law_comment_bytes" s_law_comment_bytes a_law_comment_bytes d_law_comment_bytes
  b_law_comment_bytes : Binds K d_law_comment_bytes ["vendor", "entries"] []
  g_law_comment_bytes : mg "_law_comment_bytes" = some (.ref a_law_comment_bytes)
  a_law_length : Addr
  d_law_length : FuncData
  F_law_length : Fun K "_law_length" "_law_length" s_law_length a_law_length d_law_length
  b_law_length : Binds K d_law_length ["first"] []
  g_law_length : mg "_law_length" = some (.ref a_law_length)
  a_law_text_fault : Addr
  d_law_text_fault : FuncData
  F_law_text_fault : Fun K "_law_text_fault" "_law_text_fault" s_law_text_fault a_law_text_fault d_law_text_fault
  b_law_text_fault : Binds K d_law_text_fault ["data", "start", "stop"] []
  g_law_text_fault : mg "_law_text_fault" = some (.ref a_law_text_fault)
  a_law_number : Addr
  d_law_number : FuncData
  F_law_number : Fun K "_law_number" "_law_number" s_law_number a_law_number d_law_number
  b_law_number : Binds K d_law_number ["data", "at"] []
  g_law_number : mg "_law_number" = some (.ref a_law_number)
  a_law_entry_fault : Addr
  d_law_entry_fault : FuncData
  F_law_entry_fault : Fun K "_law_entry_fault" "_law_entry_fault" s_law_entry_fault a_law_entry_fault d_law_entry_fault
  b_law_entry_fault : Binds K d_law_entry_fault ["data", "at", "end"] []
  g_law_entry_fault : mg "_law_entry_fault" = some (.ref a_law_entry_fault)
  a_law_expected : Addr
  d_law_expected : FuncData
  F_law_expected : Fun K "_law_expected" "_law_expected" s_law_expected a_law_expected d_law_expected
  b_law_expected : Binds K d_law_expected ["data", "start", "stop"] []
  g_law_expected : mg "_law_expected" = some (.ref a_law_expected)
  a_law_outcome : Addr
  d_law_outcome : FuncData
  F_law_outcome : Fun K "_law_outcome" "_law_outcome" s_law_outcome a_law_outcome d_law_outcome
  b_law_outcome : Binds K d_law_outcome ["data", "start", "stop"] []
  g_law_outcome : mg "_law_outcome" = some (.ref a_law_outcome)
  a_law : Addr
  d_law : FuncData
  F_law : Fun K "law" "law" s_law a_law d_law
  b_law : Binds K d_law ["script"] []
  g_law : mg "law" = some (.ref a_law)
  C_Comments : Addr
  cl_Comments : Cls K C_Comments
  g_Comments : mg "Comments" = some (.ref C_Comments)
  M_Comments : Mk K C_Comments a_Comments_init
  n_Comments_vendor : NoAttr K C_Comments "vendor"
  n_Comments_entries : NoAttr K C_Comments "entries"
  C_MonochordError : Addr
  g_MonochordError : mg "MonochordError" = some (.ref C_MonochordError)
  x_MonochordError : ExK K C_MonochordError a_MonochordError_init "MonochordError"
  C_InvalidForm : Addr
  g_InvalidForm : mg "InvalidForm" = some (.ref C_InvalidForm)
  x_InvalidForm : ExK K C_InvalidForm a_MonochordError_init "InvalidForm"
  C_InvalidText : Addr
  g_InvalidText : mg "InvalidText" = some (.ref C_InvalidText)
  x_InvalidText : ExK K C_InvalidText a_MonochordError_init "InvalidText"
  ti_MonochordError_init : PySem.W.typeIn K (.ref a_MonochordError_init) = some (.type "function")
  sv_MonochordError : PySem.W.subIn K (.ref C_MonochordError) (.type "ValueError") = some true
  su_MonochordError_MonochordError : PySem.W.subIn K (.ref C_MonochordError) (.ref C_MonochordError) = some true
  su_MonochordError_InvalidForm : PySem.W.subIn K (.ref C_MonochordError) (.ref C_InvalidForm) = some false
  su_MonochordError_InvalidText : PySem.W.subIn K (.ref C_MonochordError) (.ref C_InvalidText) = some false
  sv_InvalidForm : PySem.W.subIn K (.ref C_InvalidForm) (.type "ValueError") = some true
  su_InvalidForm_MonochordError : PySem.W.subIn K (.ref C_InvalidForm) (.ref C_MonochordError) = some true
  su_InvalidForm_InvalidForm : PySem.W.subIn K (.ref C_InvalidForm) (.ref C_InvalidForm) = some true
  su_InvalidForm_InvalidText : PySem.W.subIn K (.ref C_InvalidForm) (.ref C_InvalidText) = some false
  sv_InvalidText : PySem.W.subIn K (.ref C_InvalidText) (.type "ValueError") = some true
  su_InvalidText_MonochordError : PySem.W.subIn K (.ref C_InvalidText) (.ref C_MonochordError) = some true
  su_InvalidText_InvalidForm : PySem.W.subIn K (.ref C_InvalidText) (.ref C_InvalidForm) = some false
  su_InvalidText_InvalidText : PySem.W.subIn K (.ref C_InvalidText) (.ref C_InvalidText) = some true
  m_range : mg "range" = none
  m_reversed : mg "reversed" = none
  m_list : mg "list" = none
  m_len : mg "len" = none
  m_isinstance : mg "isinstance" = none
  m_int : mg "int" = none
  m_bool : mg "bool" = none
  m_all : mg "all" = none
  m_min : mg "min" = none
  m_ValueError : mg "ValueError" = none
  u_EQUALS : Value
  c_EQUALS : mg "_EQUALS" = some u_EQUALS
  r_EQUALS : RelV (.int (61)) u_EQUALS
section
variable {P : Program} {w : World} {K : PySem.W.Frag} {mg : Str → Option Value} {base : Heap}
/-! ### int(x), bits of a number -/
theorem Ev.is {σ : L2.St} {H : Hp} {te : TE} {x y : V} (h : Ev te σ H x) (e : x = y) : Ev te σ H y := e ▸ h
theorem ev_int1 {σ : L2.St} {H : Hp} {te : TE} {i : Int} (h : Ev te σ H (.int i)) : Ev (tCB (fun xs H Q => (∃ i, xs = [V.int i] ∧ Q (V.int i) H) ∨ ∃ k, xs = [V.bl k] ∧ Q (V.int (if k = true then 1 else 0)) H) (tCons te tNil)) σ H (.int i) :=
  ev_cb (ea_cons h ea_nil) fun H1 _ Q q => .inl ⟨i, rfl, q H1 (Ex.refl H1)⟩
theorem q_augR {σ : L2.St} {H : Hp} {te : TE} {D : Ends} {tz : TS} {i : Nat} {g : Int → Int → V} {a b : Int} (h1 : σ[i]? = some (some (.int a))) (h : Ev te σ H (.int b)) (k : ∀ H1, Ex H H1 → tz D (σ.set i (some (g a b))) H1) : tSeq (tAug i te (rI0 g)) tz D σ H :=
  ⟨_, h1, h H (Ex.refl H) _ fun H1 e => ⟨a, b, rfl, rfl, k H1 e⟩⟩
theorem s_augR {σ : L2.St} {H : Hp} {te : TE} {D : Ends} {i : Nat} {g : Int → Int → V} {a b : Int} (h1 : σ[i]? = some (some (.int a))) (h : Ev te σ H (.int b)) (k : ∀ H1, Ex H H1 → D.nx (σ.set i (some (g a b))) H1) : tAug i te (rI0 g) D σ H :=
  ⟨_, h1, h H (Ex.refl H) _ fun H1 e => ⟨a, b, rfl, rfl, k H1 e⟩⟩
theorem ev_atT {K : PySem.W.Frag} {σ : L2.St} {H : Hp} {tl ti : TE} {t : Addr} {xs : List V} {n : Int} {v : V} (h : Ev tl σ H (.ref t)) (hT : SqT K H t xs) (hi : Ev ti σ H (.int n)) (ha : atI xs n = some v) : Ev (tOp (rIxT K) tl ti) σ H v := fun H1 e Q q =>
  h H1 e _ fun H2 e2 => hi H2 (e.trans e2) _ fun H3 e3 => ⟨t, xs, n, v, rfl, rfl, ex_t ((e.trans e2).trans e3) hT, ha, q H3 (e2.trans e3)⟩
local macro_rules | `(tactic| walk_at "side") => `(tactic| first
  | omega
  | (show CDivW _ _; exact ⟨by omega, by decide⟩)
  | (show CDivW _ _; exact wide_div (b := 80) (by omega) (by omega) (by decide) (by decide)))
local macro_rules | `(tactic| walk_at "evown") => `(tactic| (refine' ev_int1 ?h1; (case h1 => walk_at "ev")))
/-- numbers from 0 on, as such -/
def cs (ds : List Nat) : List Int := ds.map fun d : Nat => (d : Int)
theorem cs_of {ns : List Int} {b : Int} (h : ∀ n ∈ ns, 0 ≤ n ∧ n < b) : ∃ ds : List Nat, ns = cs ds ∧ ds.length = ns.length ∧ ∀ d ∈ ds, (d : Int) < b := by
  refine ⟨ns.map Int.toNat, ?_, List.length_map .., fun d hd => ?_⟩
  · unfold cs
    rw [List.map_map]
    conv => lhs; rw [← List.map_id ns]
    refine List.map_congr_left fun n hn => ?_
    have := (h n hn).1
    show n = ((n.toNat : Nat) : Int)
    omega
  · obtain ⟨n, hn, rfl⟩ := List.mem_map.mp hd
    have := h n hn
    omega
theorem cs_len (ds : List Nat) : (cs ds).length = ds.length := List.length_map ..
theorem cs_at {ds : List Nat} {i : Nat} {d : Nat} (h : ds[i]? = some d) : (cs ds)[i]? = some (d : Int) := by unfold cs; rw [List.getElem?_map, h]; rfl
theorem cs_take (ds : List Nat) (i : Nat) : (cs ds).take i = cs (ds.take i) := by unfold cs; rw [List.map_take]
theorem cs_drop (ds : List Nat) (i : Nat) : (cs ds).drop i = cs (ds.drop i) := by unfold cs; rw [List.map_drop]
theorem cs_append (ds es : List Nat) : cs (ds ++ es) = cs ds ++ cs es := List.map_append ..

theorem ev_all {σ : L2.St} {H : Hp} {te : TE} {bs : List Bool} {b : Bool} (h : EvS K te σ H (bs.map V.bl)) (hb : bs.all id = b) : Ev (tCB (rAll K) (tCons te tNil)) σ H (.bl b) := fun H1 e Q q => h H1 e _ fun p H2 e2 hp => ⟨p, bs, rfl, hp, by rw [hb]; exact q H2 e2⟩

/-! ### own errors, made and looked at -/
theorem kitOne_ref {D C : Addr} {b : Bool} {fI : Addr} {nm : Str} (x : ExK K C fI nm) (h : PySem.W.subIn K (.ref D) (.ref C) = some b) (hD : PySem.W.subIn K (.ref D) (.ref D) = some true) : PySem.W.kitOne K (.ref D) (.ref C) = some b := by
  unfold PySem.W.kitOne
  by_cases e : D = C
  · subst e
    rw [hD] at h
    rw [if_pos (beq_self_eq_true _), ← h]
  · rw [if_neg (fun z => e (Value.ref.inj (beq_iff_eq.mp z)))]
    obtain ⟨cd, hc, _⟩ := PySem.W.any_some x.ex.hd
    show (if ((PySem.W.clsIn K C).isSome && PySem.W.typeIn K (.ref C) == some (.type "type")) = true then PySem.W.subIn K (.ref D) (.ref C) else none) = some b
    rw [if_pos (by rw [hc, x.tyC] <;> rfl), h]
theorem kitOne_VE {D : Addr} (h : PySem.W.subIn K (.ref D) (.type "ValueError") = some true) : PySem.W.kitOne K (.ref D) (.type "ValueError") = some true := by
  unfold PySem.W.kitOne
  rw [if_neg (fun z => by cases beq_iff_eq.mp z)]
  show (if PySem.W.kitMeta "ValueError" = true then PySem.W.subIn K (.ref D) (.type "ValueError") else none) = some true
  rw [if_pos (by decide +kernel), h]
theorem exm_su {D C : Addr} {b : Bool} {fI : Addr} {nm : Str} (x : ExK K C fI nm) (h : PySem.W.subIn K (.ref D) (.ref C) = some b) : PySem.W.exmOne K (.ref D) (.ref C) = some b := PySem.W.exm_ref x.ex.hs x.ex.hd x.tyC h
theorem ok_MonochordError_init (T : TX K mg) : FnOk P w K mg base CX0 1 T.a_MonochordError_init T.d_MonochordError_init ["self", "place"] (sp_einit K) := by
  refine T.F_MonochordError_init.ok sc_MonochordError_init (fun vs H Q E h => by obtain ⟨a, C, fI, nm, n, rfl, _⟩ := h; rfl) (fun cdv A outer s H vs Q E hr h => ?_)
  obtain ⟨a, C, fI, nm, n, rfl, T1, ha, k⟩ := h
  refine ⟨_, (pss_cons (ps_ost (pv 0) (pv 1))
      (pss_one (ps_ost (pv 0) (pe_clsname (pv 0))))), ?_⟩
  refine ⟨.int n, rfl, .ref a, rfl, a, C, rfl, T1.ox, T1.nP, .inl ⟨ha, fun dx hdx ne => ?_⟩⟩
  have h2 : upd (upd H dx (exd dx [("place", .int n)])) a (exo a C (some dx)) dx = some (exd dx [("place", .int n)]) := by rw [upd_ne ne]; exact upd_same
  refine ⟨.ref a, rfl, a, C, dx, [("place", .int n)], fI, nm, rfl, T1, upd_same, h2, .ref a, rfl, a, C, rfl, T1.ox, T1.nN, .inr ⟨dx, [("place", .int n)], upd_same, h2, Nat.le_of_ble_eq_true rfl, ?_⟩⟩
  refine k dx _ hdx ne (fun b o nb hb => ?_) ?_ upd_same
  · have nd : b ≠ dx := fun z => by rw [z, hdx] at hb; cases hb
    rw [upd_ne nd, upd_ne nb, upd_ne nd]
    exact hb
  · rw [upd_ne ne.symm]
    exact upd_same
/-- isinstance(error, c), error.f in the suite that holds it -/
theorem ev_isA {σ : L2.St} {H : Hp} {te : TE} {a C C2 dd : Addr} {cls : Value} {d : Option Addr} {fs : List (Str × V)} {b : Bool} (ha : Ev te σ H (.ref a)) (hc : cls = .ref C) (T : ExcC K C) (hd : d = some dd) (hx : H dd = some (.xd fs)) (hk : PySem.W.kitOne K (.ref C) (.ref C2) = some b) :
    Ev (tCB (rIsA K cls d a) (tCons te (tCons (tC (.ref C2)) tNil))) σ H (.bl b) := fun H1 e Q q =>
  ha H1 e _ fun H2 e2 => ⟨C, .ref C2, .ref C2, b, dd, fs, hc, T, hd, (e.trans e2) _ _ hx, rfl, fun u r => r, hk, q H2 e2⟩
theorem ev_isVE {σ : L2.St} {H : Hp} {te : TE} {a C dd : Addr} {cls : Value} {d : Option Addr} {fs : List (Str × V)} {b : Bool} (ha : Ev te σ H (.ref a)) (hc : cls = .ref C) (T : ExcC K C) (hd : d = some dd) (hx : H dd = some (.xd fs)) (hk : PySem.W.kitOne K (.ref C) (.type "ValueError") = some b) :
    Ev (tCB (rIsA K cls d a) (tCons te (tCons (tC (.ty "ValueError")) tNil))) σ H (.bl b) := fun H1 e Q q =>
  ha H1 e _ fun H2 e2 => ⟨C, .ty "ValueError", .type "ValueError", b, dd, fs, hc, T, hd, (e.trans e2) _ _ hx, rfl, fun u r => r, hk, q H2 e2⟩
theorem ev_xfA {σ : L2.St} {H : Hp} {te : TE} {a C dd : Addr} {cls : Value} {d : Option Addr} {f : Str} {fs : List (Str × V)} {v : V} (ha : Ev te σ H (.ref a)) (hc : cls = .ref C) (T : XfC K C) (hn : PySem.W.findIn K (.ref C) f = some none) (hd : d = some dd) (hx : H dd = some (.xd fs)) (hl : fs.lookup f = some v) :
    Ev (tXfA K a cls d f te) σ H v := fun H1 e Q q => ha H1 e _ fun H2 e2 => ⟨rfl, C, hc, T, hn, dd, fs, v, hd, (e.trans e2) _ _ hx, hl, q H2 e2⟩
/-! o.m(..) that may let an error out -/
section
variable {σ : L2.St} {H : Hp} {to : TE} {a C dx : Addr} {fs : List (Str × V)} {m : Str} {D : Ends} {tz : TS} {sp : Sp} {dvs vs : List V} {E : L2.St → XK} {t : TA} {v : V}
theorem mthX (h : Ev to σ H (.ref a)) (hx : H a = some (.ins C dx fs)) (hm : fs.lookup m = none) (ha : EvA t σ H vs) {Q : VK} (k : ∀ H1, Ex H H1 → sp (.ref a :: (vs ++ dvs)) H1 Q (E σ)) : tMethX C m sp dvs E to t σ H Q :=
  h H (Ex.refl H) _ fun H1 e1 => ⟨a, dx, fs, rfl, e1 _ _ hx, hm, ha H1 e1 _ fun H2 e2 => k H2 (e1.trans e2)⟩
theorem q_asgMX {i : Nat} (h : Ev to σ H (.ref a)) (hx : H a = some (.ins C dx fs)) (hm : fs.lookup m = none) (ha : EvA t σ H vs) (k : ∀ H1, Ex H H1 → sp (.ref a :: (vs ++ dvs)) H1 (fun x H2 => tz D (σ.set i (some x)) H2) (E σ)) : tSeq (tAsg (tMethX C m sp dvs E to t) (gName i)) tz D σ H := mthX h hx hm ha k
theorem s_retMX (h : Ev to σ H (.ref a)) (hx : H a = some (.ins C dx fs)) (hm : fs.lookup m = none) (ha : EvA t σ H vs) (k : ∀ H1, Ex H H1 → sp (.ref a :: (vs ++ dvs)) H1 D.rt (E σ)) : tRet (tMethX C m sp dvs E to t) D σ H := mthX h hx hm ha k
theorem q_asgCX {i : Nat} (h : EvA t σ H vs) (k : ∀ H1, Ex H H1 → sp (vs ++ dvs) H1 (fun x H2 => tz D (σ.set i (some x)) H2) (E σ)) : tSeq (tAsg (tCallX sp dvs E t) (gName i)) tz D σ H := h H (Ex.refl H) _ fun H1 e => k H1 e
theorem s_retCX (h : EvA t σ H vs) (k : ∀ H1, Ex H H1 → sp (vs ++ dvs) H1 D.rt (E σ)) : tRet (tCallX sp dvs E t) D σ H := h H (Ex.refl H) _ fun H1 e => k H1 e
end

/-! ### from what is evaluated to what follows -/
theorem ev_go {te : TE} {σ : L2.St} {H : Hp} {v : V} {Q : VK} (h : Ev te σ H v) (k : ∀ H2, Ex H H2 → Q v H2) : te σ H Q := h H (Ex.refl H) Q k
theorem et_go {t : TT} {σ : L2.St} {H : Hp} {b : Bool} {Q : Bool → Hp → Prop} (h : EvT t σ H b) (k : ∀ H2, Ex H H2 → Q b H2) : t σ H Q := h H (Ex.refl H) Q k
theorem el_go {te : TE} {σ : L2.St} {H : Hp} {xs : List V} {Q : VK} (h : EvL te σ H xs) (k : ∀ p H2, H p = none → Ex H H2 → H2 p = some (.lst xs) → Q (.ref p) H2) : te σ H Q := h H (Ex.refl H) Q k
theorem eu_go {te : TE} {σ : L2.St} {H : Hp} {xs : List V} {Q : VK} (h : EvU te σ H xs) (k : ∀ p H2, H p = none → Ex H H2 → H2 p = some (.tup xs) → Q (.ref p) H2) : te σ H Q := h H (Ex.refl H) Q k
theorem ea_go {t : TA} {σ : L2.St} {H : Hp} {vs : List V} {Q : List V → Hp → Prop} (h : EvA t σ H vs) (k : ∀ H2, Ex H H2 → Q vs H2) : t σ H Q := h H (Ex.refl H) Q k
/-! ### the law's state, a list of two numbers, which draws change -/
theorem et_tru {σ : L2.St} {H : Hp} {te : TE} {a : Addr} {xs : List V} (h : Ev te σ H (.ref a)) (hs : SqL K H a xs) : EvT (fun σ H Q => te σ H fun x H' => ∃ k, TruV K x H' k ∧ Q k H') σ H (!xs.isEmpty) := fun H1 e Q q => h H1 e _ fun H2 e2 => ⟨_, .inl ⟨xs, ex_l (e.trans e2) hs, rfl⟩, q H2 e2⟩
def StAt (H : Hp) (s : Addr) : Prop := ∃ k c : Int, H s = some (.lst [.int k, .int c])
def Fr (s : Addr) (H H' : Hp) : Prop := (∀ b o, b ≠ s → H b = some o → H' b = some o) ∧ StAt H' s
theorem Fr.refl {s : Addr} {H : Hp} (st : StAt H s) : Fr s H H := ⟨fun _ _ _ h => h, st⟩
theorem Fr.ex {s : Addr} {H H' : Hp} (st : StAt H s) (e : Ex H H') : Fr s H H' := ⟨fun b o _ h => e b o h, by obtain ⟨k, c, h⟩ := st; exact ⟨k, c, e _ _ h⟩⟩
theorem Fr.trans {s : Addr} {H H1 H2 : Hp} (h : Fr s H H1) (g : Fr s H1 H2) : Fr s H H2 := ⟨fun b o n e => g.1 b o n (h.1 b o n e), g.2⟩
theorem Fr.tex {s : Addr} {H H1 H2 : Hp} (h : Fr s H H1) (e : Ex H1 H2) : Fr s H H2 := h.trans (Fr.ex h.2 e)
theorem Fr.fresh {s p : Addr} {H H' : Hp} (h : Fr s H H') (hp : H' p = none) : H p = none := by
  have hs : p ≠ s := by
    rintro rfl
    obtain ⟨k, c, g⟩ := h.2
    rw [g] at hp
    cases hp
  cases e : H p with
  | none => rfl
  | some o =>
    have := h.1 p o hs e
    rw [this] at hp
    cases hp
theorem ne_st {s p : Addr} {H : Hp} (st : StAt H s) (hp : H p = none) : p ≠ s := by
  rintro rfl
  obtain ⟨k, c, g⟩ := st
  rw [g] at hp
  cases hp
theorem Fr.mut {s p : Addr} {H H1 : Hp} {o : HO} (h : Fr s H H1) (hp : H p = none) (hs : p ≠ s) : Fr s H (upd H1 p o) := ⟨fun b u n e => by rw [upd_ne (ne_of_none e hp)]; exact h.1 b u n e, by obtain ⟨k, c, g⟩ := h.2; exact ⟨k, c, by rw [upd_ne (Ne.symm hs)]; exact g⟩⟩
theorem Fr.l {s a : Addr} {H H' : Hp} {xs : List V} (h : Fr s H H') (hs : a ≠ s) (q : H a = some (.lst xs)) : H' a = some (.lst xs) := h.1 a _ hs q
/-- a list, seen through all draws -/
def Scr (K : PySem.W.Frag) (s a : Addr) (H : Hp) (xs : List V) : Prop := ∀ H', Fr s H H' → SqL K H' a xs
theorem scr_mk {s a : Addr} {H H1 : Hp} {xs : List V} (hs : H s = none) (e : Ex H H1) (q : SqL K H a xs) : Scr K s a H1 xs := fun H' fr => by
  rcases q with q | q
  · rcases q with q | ⟨o, q⟩
    · exact .inl (.inl (fr.1 _ _ (ne_of_none q hs) (e _ _ q)))
    · exact .inl (.inr ⟨o, fr.1 _ _ (ne_of_none q hs) (e _ _ q)⟩)
  · exact .inr q
def DrS (K : PySem.W.Frag) (H : Hp) (s a : Addr) (ns : List Int) : Prop := StAt H s ∧ Scr K s a H (ns.map V.int)
theorem DrS.fr {H H' : Hp} {s a : Addr} {ns : List Int} (h : DrS K H s a ns) (f : Fr s H H') : DrS K H' s a ns := ⟨f.2, fun H2 g => h.2 H2 (f.trans g)⟩
theorem DrS.ex {H H' : Hp} {s a : Addr} {ns : List Int} (h : DrS K H s a ns) (e : Ex H H') : DrS K H' s a ns := h.fr (Fr.ex h.1 e)
theorem DrS.sq {H : Hp} {s a : Addr} {ns : List Int} (h : DrS K H s a ns) : SqL K H a (ns.map V.int) := h.2 H (Fr.refl h.1)
/-! numbers, tests that draw on the way -/
def EvI (s : Addr) (te : TE) (σ : L2.St) (H : Hp) (p : Int → Prop) : Prop := ∀ Q : VK, (∀ i H2, Fr s H H2 → p i → Q (.int i) H2) → te σ H Q
def EvTW (s : Addr) (t : TT) (σ : L2.St) (H : Hp) (p : Bool → Prop) : Prop := ∀ Q : Bool → Hp → Prop, (∀ b H2, Fr s H H2 → p b → Q b H2) → t σ H Q
section
variable {s : Addr} {σ : L2.St} {H : Hp} {ta tb te : TE} {p q : Int → Prop}
theorem wi_ev {i : Int} (st : StAt H s) (h : Ev te σ H (.int i)) : EvI s te σ H (fun z => z = i) := fun Q q => h H (Ex.refl H) _ fun H2 e2 => q i H2 (Fr.ex st e2) rfl
theorem wi_imp {p q : Int → Prop} (h : EvI s te σ H p) (hi : ∀ z, p z → q z) : EvI s te σ H q := fun Q k => h Q fun i H2 f hp => k i H2 f (hi i hp)
theorem wi_op {g : Int → Int → Int} (ha : EvI s ta σ H p) (hb : ∀ H1, Fr s H H1 → EvI s tb σ H1 q) : EvI s (tOp (rI0 fun i j => .int (g i j)) ta tb) σ H (fun z => ∃ i j, p i ∧ q j ∧ z = g i j) := fun Q k =>
  ha _ fun i H1 f1 hp => hb H1 f1 _ fun j H2 f2 hq => ⟨i, j, rfl, rfl, k _ H2 (f1.trans f2) ⟨i, j, hp, hq, rfl⟩⟩
theorem wi_opC {C : Int → Int → Prop} {g : Int → Int → Int} (ha : EvI s ta σ H p) (hb : ∀ H1, Fr s H H1 → EvI s tb σ H1 q) (hc : ∀ i j, p i → q j → C i j) : EvI s (tOp (rI C fun i j => .int (g i j)) ta tb) σ H (fun z => ∃ i j, p i ∧ q j ∧ z = g i j) := fun Q k =>
  ha _ fun i H1 f1 hp => hb H1 f1 _ fun j H2 f2 hq => ⟨i, j, rfl, rfl, hc i j hp hq, k _ H2 (f1.trans f2) ⟨i, j, hp, hq, rfl⟩⟩
theorem wt_cmp {g : Int → Int → Bool} (ha : EvI s ta σ H p) (hb : ∀ H1, Fr s H H1 → EvI s tb σ H1 q) : EvTW s (tTest (tOp (rI0 fun i j => .bl (g i j)) ta tb)) σ H (fun b => ∃ i j, p i ∧ q j ∧ b = g i j) := fun Q k =>
  ha _ fun i H1 f1 hp => hb H1 f1 _ fun j H2 f2 hq => ⟨i, j, rfl, rfl, g i j, rfl, k _ H2 (f1.trans f2) ⟨i, j, hp, hq, rfl⟩⟩
theorem wt_eq (ha : EvI s ta σ H p) (hb : ∀ H1, Fr s H H1 → EvI s tb σ H1 q) : EvTW s (tTest (tOp rEq ta tb)) σ H (fun b => ∃ i j, p i ∧ q j ∧ b = decide (i = j)) := fun Q k =>
  ha _ fun i H1 f1 hp => hb H1 f1 _ fun j H2 f2 hq => ⟨rfl, decide (V.int i = V.int j), rfl, k _ H2 (f1.trans f2) ⟨i, j, hp, hq, by simp⟩⟩
theorem wt_ev {t : TT} {b : Bool} (st : StAt H s) (h : EvT t σ H b) : EvTW s t σ H (fun z => z = b) := fun Q q => h H (Ex.refl H) _ fun H2 e2 => q b H2 (Fr.ex st e2) rfl
theorem wt_and {t u : TT} {p q : Bool → Prop} (h1 : EvTW s t σ H p) (h2 : ∀ H1, Fr s H H1 → p true → EvTW s u σ H1 q) : EvTW s (tAnd t u) σ H (fun b => (p false ∧ b = false) ∨ (p true ∧ q b)) := fun Q k => h1 _ fun b H1 f1 hb => by
  cases b with
  | true => exact h2 H1 f1 hb _ fun c H2 f2 hc => k c H2 (f1.trans f2) (.inr ⟨hb, hc⟩)
  | false => exact k false H1 f1 (.inl ⟨hb, rfl⟩)
theorem wt_not {t : TT} {p : Bool → Prop} (h1 : EvTW s t σ H p) : EvTW s (tNot t) σ H (fun b => p (!b)) := fun Q k => h1 _ fun b H1 f1 hb => k (!b) H1 f1 (by show p (!!b); rw [Bool.not_not]; exact hb)
variable {D : Ends} {tz tu : TS}
theorem qw_asg {j : Nat} (h : EvI s te σ H p) (k : ∀ i H1, Fr s H H1 → p i → tz D (σ.set j (some (.int i))) H1) : tSeq (tAsg te (gName j)) tz D σ H := h _ k
theorem sw_asg {j : Nat} (h : EvI s te σ H p) (k : ∀ i H1, Fr s H H1 → p i → D.nx (σ.set j (some (.int i))) H1) : tAsg te (gName j) D σ H := h _ k
theorem sw_ret (h : EvI s te σ H p) (k : ∀ i H1, Fr s H H1 → p i → D.rt (.int i) H1) : tRet te D σ H := h _ k
theorem qw_when {t : TT} {p : Bool → Prop} (h : EvTW s t σ H p) (h1 : p true → ∀ H1, Fr s H H1 → tu { D with nx := tz D } σ H1) (h2 : p false → ∀ H1, Fr s H H1 → tz D σ H1) : tSeq (tIfS t tu tNext) tz D σ H := h _ fun b H1 f hb => by
  cases b with
  | true => exact h1 hb H1 f
  | false => exact h2 hb H1 f
theorem sw_when {t : TT} {p : Bool → Prop} (h : EvTW s t σ H p) (h1 : p true → ∀ H1, Fr s H H1 → tu D σ H1) (h2 : p false → ∀ H1, Fr s H H1 → D.nx σ H1) : tIfS t tu tNext D σ H := h _ fun b H1 f hb => by
  cases b with
  | true => exact h1 hb H1 f
  | false => exact h2 hb H1 f
theorem sw_if {t : TT} {tw : TS} {p : Bool → Prop} (h : EvTW s t σ H p) (h1 : p true → ∀ H1, Fr s H H1 → tu D σ H1) (h2 : p false → ∀ H1, Fr s H H1 → tw D σ H1) : tIfS t tu tw D σ H := h _ fun b H1 f hb => by
  cases b with
  | true => exact h1 hb H1 f
  | false => exact h2 hb H1 f
theorem qw_forR1 {j : Nat} (h : EvI s te σ H p) (hp : ∀ i, p i → 0 ≤ i ∧ i ≤ 100000) (Pv : Int → Nat → L2.St → Hp → Prop) (h0 : ∀ n H1, p n → Fr s H H1 → Pv n 0 σ H1)
    (hs : ∀ n (i : Nat) σ' H', p n → (i : Int) < n → Pv n i σ' H' → tu { D with nx := Pv n (i + 1), ct := Pv n (i + 1), bk := tz D } (σ'.set j (some (.int (i : Int)))) H') (hd : ∀ n σ' H', p n → Pv n n.toNat σ' H' → tz D σ' H') : tSeq (tFor (iRng1 (tCons te tNil)) (gName j) tu) tz D σ H :=
  h _ fun n H1 f hn => ⟨n, rfl, by have := hp n hn; omega, by have := hp n hn; omega, for_range (D := { D with nx := tz D }) (lo := 0) (n := n.toNat) (Pv n) (h0 n H1 hn f) (fun i σ' H' hi q => by
    have e0 : (0 : Int) + (i : Int) = (i : Int) := Int.zero_add _
    show tu { D with nx := Pv n (i + 1), ct := Pv n (i + 1), bk := tz D } (σ'.set j (some (.int ((0 : Int) + (i : Int))))) H'
    rw [e0]
    exact hs n i σ' H' hn (by have := hp n hn; omega) q) fun σ' H' q => hd n σ' H' hn q⟩
end
/-- [e for j in range(n)] whose element draws -/
theorem tlc_rngW {ta : TA} {te : TE} {vs : List Nat} {n : Int} {j : Nat} {σ : L2.St} {H : Hp} {Q : VK} (h : EvA ta σ H [.int n]) (hn : -100000 ≤ n ∧ n ≤ 100000)
    (k : ∀ H1, Ex H H1 → ∀ Dl, H1 Dl = none → ∃ Pv : Nat → Hp → Prop, Pv 0 (upd H1 Dl (.lst [])) ∧ (∀ (i : Nat) H', i < n.toNat → Pv i H' → wipe ((wipe σ vs).set j (some (.int (i : Int)))) vs = wipe σ vs ∧ te ((wipe σ vs).set j (some (.int (i : Int)))) H' fun y H4 => ∃ acc, H4 Dl = some (.lst acc) ∧ acc.length < sizeLine ∧ Pv (i + 1) (upd H4 Dl (.lst (acc ++ [y])))) ∧ (∀ H', Pv n.toNat H' → Q (.ref Dl) H')) :
    tLc (iRng1 ta) (gName j) tYes te vs σ H Q := h H (Ex.refl H) _ fun H1 e1 => ⟨n, rfl, by omega, by omega, fun Dl hD => by
  obtain ⟨Pv, h0, hs, hd⟩ := k H1 e1 Dl hD
  refine lc_range (lo := 0) (n := n.toNat) Pv h0 (fun i H' hi p => ?_) hd
  rw [Int.zero_add]
  exact hs i H' hi p⟩
/-- xs[j] = e, e of a kind -/
theorem q_setLR {σ : L2.St} {H : Hp} {te ta tb : TE} {l : Addr} {xs : List V} {j : Nat} {D : Ends} {tz : TS} {P : V → Prop} (h : ∀ Q : VK, (∀ v H1, Ex H H1 → P v → Q v H1) → te σ H Q) (hl : H l = some (.lst xs)) (ho : ∀ H1, Ev ta σ H1 (.ref l)) (hi : ∀ H1, Ev tb σ H1 (.int (j : Int))) (hj : j < xs.length) (k : ∀ v H1, P v → Ex H H1 → tz D σ (upd H1 l (.lst (xs.set j v)))) : tSeq (tAsg te (gSub ta tb rSetL)) tz D σ H :=
  h _ fun v H1 e1 hv => ho H1 H1 (Ex.refl _) _ fun H2 e2 => hi H2 H2 (Ex.refl _) _ fun H3 e3 => ⟨l, xs, (j : Int), j, rfl, rfl, ((e1.trans e2).trans e3) l _ hl, ixN_nat hj, k v H3 hv ((e1.trans e2).trans e3)⟩
/-! ### the law's draws -/

def sp_isint : Sp := fun vs H Q _ => ∃ n : Int, vs = [.int n] ∧ RetV (.bl true) H Q
theorem ok_law_is_integer (T : TX K mg) : FnOk P w K mg base CX0 1 T.a_law_is_integer T.d_law_is_integer ["actual"] sp_isint := by
  refine T.F_law_is_integer.ok sc_law_is_integer (fun vs H Q E h => by obtain ⟨n, rfl, _⟩ := h; rfl) (fun cdv A outer s H vs Q E hr h => ?_)
  obtain ⟨n, rfl, k⟩ := h
  refine ⟨_, (pss_one (ps_ret (pe_and (pe_callB (r := rIsi K) call_isi (by rfl) T.m_isinstance PyProof.Rows.boot_isinstance (pa_cons (pv 0) (pa_cons (pe_bltn (v := V.ty "int") (by rfl) T.m_int PyProof.Rows.boot_int rfl) pa_nil))) (pe_one (pe_not (pe_callB (r := rIsi K) call_isi (by rfl) T.m_isinstance PyProof.Rows.boot_isinstance (pa_cons (pv 0) (pa_cons (pe_bltn (v := V.ty "bool") (by rfl) T.m_bool PyProof.Rows.boot_bool rfl) pa_nil)))))))), ?_⟩
  walk_at "ret"
  intro H2 e2
  exact ret_eq k e2 rfl
theorem ev_isint {σ : L2.St} {H : Hp} {te : TE} {E : XK} {n : Int} (h : Ev te σ H (.int n)) : Ev (tCall sp_isint [] E (tCons te tNil)) σ H (.bl true) := ev_call (ea_cons h ea_nil) fun H1 _ Q q _ => ⟨n, rfl, q⟩

def sp_refill (K : PySem.W.Frag) : Sp := fun vs H Q _ => ∃ (a : Addr) (ns : List Int) (k : Int), vs = [.ref a, .int k] ∧ SqL K H a (ns.map V.int) ∧ ∀ c : Int, RetV (.int c) H Q
theorem ok_law_refill (T : TX K mg) : FnOk P w K mg base CX0 1 T.a_law_refill T.d_law_refill ["script", "k"] (sp_refill K) := by
  refine T.F_law_refill.ok sc_law_refill (fun vs H Q E h => by obtain ⟨a, ns, k, rfl, _⟩ := h; rfl) (fun cdv A outer s0 H vs Q E hr h => ?_)
  obtain ⟨a, ns, k, rfl, hS, q⟩ := h
  refine ⟨_, (pss_cons (ps_set (i := 2) sc_law_refill.nd rfl (Or.inl rfl) pe_int)
      (pss_cons (ps_if (pt_truth (pv 0) (by intro _; rfl)) (pss_one (ps_set (i := 2) sc_law_refill.nd rfl (Or.inl rfl) (pe_ix (r := rIxL K) ix_list (pv 0) (pe_op op_mod (pv 1) (pe_callB (r := rLenS K) call_len_seq (by rfl) T.m_len PySem.boot_len (pa_cons (pv 0) pa_nil))) (fun _ _ => rfl)))) pss_nil)
      (pss_cons (ps_if (pt_cmpR op_lt (pv 2) pe_int (nomark _)) (pss_one (ps_set (i := 2) sc_law_refill.nd rfl (Or.inl rfl) (pe_op op_sub pe_int (pe_op op_mul pe_int (pv 2))))) pss_nil)
      (pss_cons (ps_if (PW.pt (pw_and (pt_cmpR op_ge (pv 2) (pe_op op_pow pe_int pe_int) (nomark _)) (pw_and1 (pt_cmpR op_lt (pv 1) (pe_callB (r := rLenS K) call_len_seq (by rfl) T.m_len PySem.boot_len (pa_cons (pv 0) pa_nil)) (nomark _))))) (pss_one (ps_ret (pv 2))) pss_nil)
      (pss_one (ps_ret (pe_op op_mod (pe_callTy call_int1 (by rfl) T.m_int PyProof.Rows.boot_int (pa_cons (pe_op op_add (pe_op op_mul (pe_callTy call_int1 (by rfl) T.m_int PyProof.Rows.boot_int (pa_cons (pe_op op_add (pe_op op_add (pe_op op_mul (pv 2) pe_int) (pe_op op_mul (pv 1) pe_int)) pe_int) pa_nil)) pe_int) pe_int) pa_nil)) pe_int))))))), ?_⟩
  refine q_asg ev_c fun H1 e1 => ?_
  have hl : (ns.map V.int).length = ns.length := List.length_map ..
  have rest : ∀ (c : Int) (H2 : Hp), Ex H H2 → tSeq (tIfS (tTest (tOp (rI0 fun i j => .bl (decide (i < j))) (tVar 2) (tC (.int 0)))) (tAsg (tOp (rI0 fun i j => .int (i - j)) (tC (.int 1)) (tOp (rI CMul fun i j => .int (i * j)) (tC (.int 2)) (tVar 2))) (gName 2)) tNext) (tSeq (tIfS (tAnd (tTest (tOp (rI0 fun i j => .bl (decide (j ≤ i))) (tVar 2) (tOp (rI CPow fun i j => .int (i ^ j.toNat)) (tC (.int 10)) (tC (.int 18))))) (tTest (tOp (rI0 fun i j => .bl (decide (i < j))) (tVar 1) (tCB (rLenS K) (tCons (tVar 0) tNil))))) (tRet (tVar 2)) tNext) (tRet (tOp (rI (fun _ j => 0 < j) fun i j => .int (i % j)) (tCB (fun xs H Q => (∃ i, xs = [V.int i] ∧ Q (V.int i) H) ∨ ∃ k, xs = [V.bl k] ∧ Q (V.int (if k = true then 1 else 0)) H) (tCons (tOp (rI0 fun i j => .int (i + j)) (tOp (rI CMul fun i j => .int (i * j)) (tCB (fun xs H Q => (∃ i, xs = [V.int i] ∧ Q (V.int i) H) ∨ ∃ k, xs = [V.bl k] ∧ Q (V.int (if k = true then 1 else 0)) H) (tCons (tOp (rI0 fun i j => .int (i + j)) (tOp (rI0 fun i j => .int (i + j)) (tOp (rI CMul fun i j => .int (i * j)) (tVar 2) (tC (.int 48271))) (tOp (rI CMul fun i j => .int (i * j)) (tVar 1) (tC (.int 69621)))) (tC (.int 12345))) tNil)) (tC (.int 40692))) (tC (.int 7))) tNil)) (tC (.int 2147483399))))) { nx := fun _ H' => Q .non H', rt := Q } [some (.ref a), some (.int k), some (.int c)] H2 := fun c H2 e2 => by
    obtain ⟨c1, hc1⟩ : ∃ c1 : Int, (if c < 0 then 1 - 2 * c else c) = c1 := ⟨_, rfl⟩
    refine q_ifAsg (b := decide (c < 0)) (v := .int c1) (et_test (ev_I0 (ev_var rfl) ev_c)) (fun h => Ev.is (ev_I0 ev_c (ev_I ev_c (ev_var rfl) (.inl (by decide)))) (congrArg V.int (by rw [← hc1, if_pos (of_decide_eq_true h)]))) (fun h => by rw [← hc1, if_neg (of_decide_eq_false h)]; rfl) fun H3 e3 => ?_
    refine q_when (et_and (et_test (ev_I0 (ev_var rfl) (ev_I ev_c ev_c ⟨by decide, by decide, by decide⟩))) fun _ => et_test (ev_I0 (ev_var rfl) (ev_lenS (Ev.s (ev_var rfl) (ex_l (e2.trans e3) hS))))) (fun _ H4 e4 => ?_) (fun _ H4 e4 => ?_)
    · exact s_ret (ev_var rfl) fun H5 e5 => (q _).go ((e2.trans e3).trans (e4.trans e5))
    · exact s_ret (ev_I (ev_int1 (ev_I0 (ev_I (ev_int1 (ev_I0 (ev_I0 (ev_I (ev_var rfl) ev_c (.inr (by decide))) (ev_I (ev_var rfl) ev_c (.inr (by decide)))) ev_c)) ev_c (.inr (by decide))) ev_c)) ev_c (by decide)) fun H5 e5 => (q _).go ((e2.trans e3).trans (e4.trans e5))
  refine q_when (et_tru (ev_var rfl) (ex_l e1 hS)) (fun hb H2 e2 => ?_) (fun _ H2 e2 => rest 0 H2 (e1.trans e2))
  have h0 : 0 < ns.length := by
    cases ns with
    | nil => cases hb
    | cons x r => rw [List.length_cons]; omega
  have h1 := Int.emod_nonneg k (show (ns.length : Int) ≠ 0 by omega)
  have h2 := Int.emod_lt_of_pos k (show (0 : Int) < ns.length by omega)
  refine s_asg (v := .int (ns.getD (k % (ns.length : Int)).toNat 0)) (ev_ixS (i := 0) (n := k % (ns.length : Int)) (Ev.s (ev_var rfl) (ex_l (e1.trans e2) hS)) (ev_I (ev_var rfl) (Ev.is (ev_lenS (Ev.s (ev_var rfl) (ex_l (e1.trans e2) hS))) (by rw [hl])) (by omega)) (at_of (j := (k % (ns.length : Int)).toNat) (by omega) (at_int (gl_get (by omega))))) fun H3 e3 => rest _ H3 (e1.trans (e2.trans e3))
def sp_draw (K : PySem.W.Frag) : Sp := fun vs H Q _ => ∃ (s a : Addr) (ns : List Int) (n : Int), vs = [.ref s, .ref a, .int n] ∧ DrS K H s a ns ∧ 0 < n ∧ n ≤ 2 ^ 80 ∧ ∀ (d : Nat) H', (d : Int) < n → Fr s H H' → Q (.int (d : Int)) H'
theorem ok_law_draw (T : TX K mg) : FnOk P w K mg base CX0 2 T.a_law_draw T.d_law_draw ["state", "script", "size"] (sp_draw K) := by
  refine T.F_law_draw.ok sc_law_draw (fun vs H Q E h => by obtain ⟨s, a, ns, n, rfl, _⟩ := h; rfl) (fun cdv A outer s0 H vs Q E hr h => ?_)
  obtain ⟨s, a, ns, n, rfl, hd, hn0, hn, k⟩ := h
  have hn' : n ≤ 1208925819614629174706176 := hn
  have hlog : n.natAbs.log2 < 9000 := by
    have : n.natAbs < 2 ^ 81 := by omega
    have := (Nat.log2_lt (n := n.natAbs) (k := 81) (by omega)).mpr this
    omega
  refine ⟨_, (pss_cut (ps_if (pt_cmpR op_eq (pe_ix (r := rIxL K) ix_list (pv 0) pe_int (fun _ _ => rfl)) pe_int (nomark _)) (pss_cons (ps_asg (pe_call (ok_law_refill T) (hr.mono (by decide)) (by rfl) T.g_law_refill T.F_law_refill.kp T.b_law_refill .nil pass0 (pa_cons (pv 1) (pa_cons (pe_ix (r := rIxL K) ix_list (pv 0) pe_int (fun _ _ => rfl)) pa_nil))) (pg_sub (pv 0) pe_int set_list))
        (pss_one (ps_asg (pe_op op_add (pe_ix (r := rIxL K) ix_list (pv 0) pe_int (fun _ _ => rfl)) pe_int) (pg_sub (pv 0) pe_int set_list)))) pss_nil)
      (pss_cons (ps_set (i := 3) sc_law_draw.nd rfl (Or.inl rfl) (pe_op op_mod (pe_callTy call_int1 (by rfl) T.m_int PyProof.Rows.boot_int (pa_cons (pe_ix (r := rIxL K) ix_list (pv 0) pe_int (fun _ _ => rfl)) pa_nil)) (pv 2)))
      (pss_cons (ps_asg (pe_op op_fdivW (pe_ix (r := rIxL K) ix_list (pv 0) pe_int (fun _ _ => rfl)) (pv 2)) (pg_sub (pv 0) pe_int set_list))
      (pss_one (ps_ret (pv 3)))))), ?_⟩
  refine q_cut (M := fun σ' H' => ∃ kk cc : Int, σ' = [some (.ref s), some (.ref a), some (.int n), none] ∧ (∀ b o, b ≠ s → H b = some o → H' b = some o) ∧ H' s = some (.lst [.int kk, .int cc])) ?_ ?_
  · obtain ⟨kk, cc, g⟩ := hd.1
    refine s_when (et_test (ev_eq (ev_ixS (i := 0) (n := 1) (Ev.s (ev_var rfl) (sq_of g)) ev_c (at_of (j := 1) rfl rfl)) ev_c rfl)) (fun _ H1 e1 => ?_) (fun _ H1 e1 => ⟨kk, cc, rfl, fun b o _ h => e1 b o h, e1 _ _ g⟩)
    have g1 := e1 _ _ g
    refine q_setLR (l := s) (xs := [.int kk, .int cc]) (j := 1) (P := fun v => ∃ c : Int, v = .int c) (fun Q' q' => (ea_cons (ev_var rfl) (ea_cons (ev_ixS (K := K) (i := 0) (n := 0) (v := .int kk) (xs := [.int kk, .int cc]) (Ev.s (ev_var rfl) (sq_of g1)) ev_c (at_of (j := 0) rfl rfl)) ea_nil)) H1 (Ex.refl _) _ fun H2 e2 => ⟨a, ns, kk, rfl, (hd.ex (e1.trans e2)).sq, fun c H3 e3 => q' _ _ (e2.trans e3) ⟨c, rfl⟩⟩) g1 (fun _ => ev_var rfl) (fun _ => ev_c) (Nat.le_of_ble_eq_true rfl) fun v H2 hv e2 => ?_
    obtain ⟨c, rfl⟩ := hv
    have u2 : (upd H2 s (.lst [V.int kk, V.int c])) s = some (.lst [V.int kk, V.int c]) := upd_same
    refine s_setL (l := s) (j := 0) (v := .int (kk + 1)) u2 (ev_I0 (ev_ixS (i := 0) (n := 0) (Ev.s (ev_var rfl) (sq_of u2)) ev_c (at_of (j := 0) rfl rfl)) ev_c) (ev_var rfl) ev_c (Nat.le_of_ble_eq_true rfl) fun H3 e3 => ⟨kk + 1, c, rfl, fun b o hb h => ?_, upd_same⟩
    rw [upd_ne hb]
    exact e3 _ _ (by rw [upd_ne hb]; exact e2 _ _ (e1 _ _ h))
  · rintro σ' H1 ⟨kk, cc, rfl, fr, g⟩
    have h0 := Int.emod_nonneg cc (show n ≠ 0 by omega)
    have h1 := Int.emod_lt_of_pos cc hn0
    obtain ⟨d, hd'⟩ : ∃ d : Nat, cc % n = (d : Int) := ⟨(cc % n).toNat, by omega⟩
    refine q_asg (v := .int (d : Int)) (Ev.is (ev_I (ev_int1 (ev_ixS (i := 0) (n := 1) (Ev.s (ev_var rfl) (sq_of g)) ev_c (at_of (j := 1) rfl rfl))) (ev_var rfl) hn0) (congrArg V.int hd')) fun H2 e2 => ?_
    refine q_setL (l := s) (j := 1) (v := .int (cc / n)) (e2 _ _ g) (ev_I (ev_ixS (i := 0) (n := 1) (Ev.s (ev_var rfl) (sq_of (e2 _ _ g))) ev_c (at_of (j := 1) rfl rfl)) (ev_var rfl) ⟨hn0, hlog⟩) (ev_var rfl) ev_c (Nat.le_of_ble_eq_true rfl) fun H3 e3 => ?_
    refine s_ret (v := .int (d : Int)) (ev_var rfl) fun H4 e4 => k d H4 (by omega) ⟨fun b o hb h => e4 _ _ (by rw [upd_ne hb]; exact e3 _ _ (e2 _ _ (fr b o hb h))), ⟨kk, cc / n, e4 _ _ upd_same⟩⟩
theorem wi_draw {s a : Addr} {ns : List Int} {σ : L2.St} {H : Hp} {tn : TE} {E : XK} {n : Int} {i j : Nat} (hd : DrS K H s a ns) (h1 : σ[i]? = some (some (.ref s))) (h2 : σ[j]? = some (some (.ref a))) (h3 : Ev tn σ H (.int n)) (h0 : 0 < n) (hn : n ≤ 2 ^ 80) :
    EvI s (tCall (sp_draw K) [] E (tCons (tVar i) (tCons (tVar j) (tCons tn tNil)))) σ H (fun z => ∃ d : Nat, z = (d : Int) ∧ (d : Int) < n) := fun Q q =>
  (ea_cons (ev_var h1) (ea_cons (ev_var h2) (ea_cons h3 ea_nil))) H (Ex.refl _) _ fun H1 e1 => ⟨s, a, ns, n, rfl, hd.ex e1, h0, hn, fun d H2 hdn f => q _ H2 ((Fr.ex hd.1 e1).trans f) ⟨d, rfl, hdn⟩⟩

def sp_junk (K : PySem.W.Frag) : Sp := fun vs H Q _ => ∃ (s a : Addr) (ns : List Int) (m : Nat), vs = [.ref s, .ref a, .int (m : Int)] ∧ DrS K H s a ns ∧ m ≤ 1000 ∧ ∀ p (ds : List Nat) H', H p = none → Fr s H H' → H' p = some (.lst ((cs ds).map V.int)) → ds.length = m → (∀ d ∈ ds, d < 256) → Q (.ref p) H'
theorem ok_law_junk (T : TX K mg) : FnOk P w K mg base CX0 3 T.a_law_junk T.d_law_junk ["state", "script", "count"] (sp_junk K) := by
  refine T.F_law_junk.ok sc_law_junk (fun vs H Q E h => by obtain ⟨s, a, ns, m, rfl, _⟩ := h; rfl) (fun cdv A outer s0 H vs Q E hr h => ?_)
  obtain ⟨s, a, ns, m, rfl, hd, hm, k⟩ := h
  refine ⟨_, (pss_one (ps_ret (pe_lc (own := [("k", 3)]) (g := gName 3) (tt := tYes) rfl sc_law_junk.nd (pi_range1 (by rfl) T.m_range (pa_cons (pv 2) pa_nil)) (blkOk_by (N := ["state", "script", "count", "k"]) (sc := defScope s_law_junk) (by decide +kernel)) (fun _ _ _ _ _ => pg_name (i := 3) sc_law_junk.nd rfl (Or.inl rfl)) (fun _ _ _ _ _ => pts_nil) (fun _ _ _ _ _ => (pe_call (ok_law_draw T) (hr.mono (by decide)) (by rfl) T.g_law_draw T.F_law_draw.kp T.b_law_draw .nil pass0 (pa_cons (pv 0) (pa_cons (pv 1) (pa_cons pe_int pa_nil)))))))), ?_⟩
  refine tlc_rngW (n := (m : Int)) (ea_cons (ev_var rfl) ea_nil) (by omega) fun H1 e1 Dl hD => ⟨fun i H' => ∃ ds : List Nat, Fr s H H' ∧ H' Dl = some (.lst ((cs ds).map V.int)) ∧ ds.length = i ∧ ∀ d ∈ ds, d < 256, ⟨[], ?_, upd_same, rfl, fun d hd => by cases hd⟩, ?_, ?_⟩
  · exact Fr.ex hd.1 (Ex.mut e1 (fresh_back e1 hD))
  · rintro i H' hi ⟨ds, f, g, hl, hb⟩
    have hi : i < m := by omega
    have hDs : Dl ≠ s := ne_st hd.1 (fresh_back e1 hD)
    refine ⟨rfl, wi_draw (hd.fr f) rfl rfl ev_c (by decide) (by decide) _ fun z H2 f2 hz => ?_⟩
    obtain ⟨d, rfl, hdn⟩ := hz
    refine ⟨(cs ds).map V.int, f2.l hDs g, sz_lt (by rw [List.length_map, cs_len]; omega), ds ++ [d], (f.trans f2).mut (fresh_back e1 hD) hDs, ?_, by rw [List.length_append, hl]; rfl, fun y hy => ?_⟩
    · rw [upd_same, cs_append, List.map_append]
      rfl
    · rcases List.mem_append.mp hy with h | h
      · exact hb y h
      · rw [List.mem_singleton.mp h]
        omega
  · rintro H' ⟨ds, f, g, hl, hb⟩
    exact k Dl ds H' (fresh_back e1 hD) f g (by omega) hb
theorem and_mask255 (x : Nat) : Builtin.bitAnd (x : Int) 255 = ((x % 256 : Nat) : Int) := by
  have h := _root_.Bits.bitAnd_mask (x := (x : Int)) 8 (by omega)
  have e : (2 : Int) ^ 8 - 1 = 255 := rfl
  rw [e] at h
  rw [h]
  have e2 : (2 : Int) ^ 8 = 256 := rfl
  rw [e2]
  omega
def bigB (x n : Nat) : List Nat := (List.range n).map fun k => x / 2 ^ (8 * (n - 1 - k)) % 256
theorem bigB_len (x n : Nat) : (bigB x n).length = n := by unfold bigB; rw [List.length_map, List.length_range]
theorem bigB_lt (x n : Nat) : ∀ d ∈ bigB x n, d < 256 := fun d hd => by
  unfold bigB at hd
  obtain ⟨k, _, rfl⟩ := List.mem_map.mp hd
  exact Nat.mod_lt _ (by decide)
theorem p2n (j : Nat) : ((2 : Int) ^ j) = ((2 ^ j : Nat) : Int) := by rw [Int.natCast_pow]; rfl
theorem ev_byte {σ : L2.St} {H : Hp} {t1 t2 : TE} {x j : Nat} (h1 : Ev t1 σ H (.int (x : Int))) (h2 : Ev t2 σ H (.int (j : Int))) : Ev (tOp (rI0 fun i j => .int (Builtin.bitAnd i j)) (tOp (rI (fun _ j => 0 ≤ j) fun i j => .int (i / 2 ^ j.toNat)) t1 t2) (tC (.int 255))) σ H (.int ((x / 2 ^ j % 256 : Nat) : Int)) :=
  Ev.is (ev_I0 (Ev.is (ev_I h1 h2 (by omega)) (congrArg V.int (show (x : Int) / 2 ^ (j : Int).toNat = ((x / 2 ^ j : Nat) : Int) by rw [Int.toNat_natCast, p2n, Int.natCast_ediv]))) ev_c) (congrArg V.int (and_mask255 _))

theorem cs_get {ds : List Nat} {i : Nat} {x : V} (hx : ((cs ds).map V.int)[i]? = some x) : ∃ d, ds[i]? = some d ∧ i < ds.length ∧ x = V.int (d : Int) := by
  obtain ⟨n, hn, hi, rfl⟩ := int_at hx
  unfold cs at hn
  rw [List.getElem?_map] at hn
  cases e : ds[i]? with
  | none => rw [e] at hn; cases hn
  | some d =>
    rw [e] at hn
    exact ⟨d, rfl, (List.getElem?_eq_some_iff.mp e).1, by rw [← Option.some.inj hn]⟩

/-! ### ranges with a step -/
theorem s_forRC {σ : L2.St} {H : Hp} {D : Ends} {tu : TS} {ta : TA} {j n : Nat} {a b c : Int} (h : EvA ta σ H [.int a, .int b, .int c]) (hr : RgC a b c n) (Pv : Nat → L2.St → Hp → Prop) (h0 : ∀ H1, Ex H H1 → Pv 0 σ H1)
    (hs : ∀ i σ' H', i < n → Pv i σ' H' → tu { nx := Pv (i + 1), rt := D.rt, bk := D.nx, ct := Pv (i + 1) } (σ'.set j (some (.int (a + (i : Nat) * c)))) H') (hd : ∀ σ' H', Pv n σ' H' → D.nx σ' H') : tFor (iRng3 ta) (gName j) tu D σ H :=
  h H (Ex.refl H) _ fun H1 e1 => ⟨a, b, c, n, rfl, hr, for_rangeC Pv (h0 H1 e1) hs hd⟩
theorem q_forRC {σ : L2.St} {H : Hp} {D : Ends} {tu tz : TS} {ta : TA} {j n : Nat} {a b c : Int} (h : EvA ta σ H [.int a, .int b, .int c]) (hr : RgC a b c n) (Pv : Nat → L2.St → Hp → Prop) (h0 : ∀ H1, Ex H H1 → Pv 0 σ H1)
    (hs : ∀ i σ' H', i < n → Pv i σ' H' → tu { nx := Pv (i + 1), rt := D.rt, bk := tz D, ct := Pv (i + 1) } (σ'.set j (some (.int (a + (i : Nat) * c)))) H') (hd : ∀ σ' H', Pv n σ' H' → tz D σ' H') : tSeq (tFor (iRng3 ta) (gName j) tu) tz D σ H :=
  h H (Ex.refl H) _ fun H1 e1 => ⟨a, b, c, n, rfl, hr, for_rangeC Pv (h0 H1 e1) hs hd⟩
theorem el_lcC {σ : L2.St} {H : Hp} {ta : TA} {te : TE} {vs : List Nat} {j n : Nat} {a b c : Int} (zs : List V) (h1 : EvA ta σ H [.int a, .int b, .int c]) (hr : RgC a b c n) (hz : zs.length = n) (hb : zs.length ≤ 50000) (hw : ∀ x, wipe ((wipe σ vs).set j (some x)) vs = wipe σ vs)
    (he : ∀ (i : Nat) H1, Ex H H1 → i < n → ∃ z, zs[i]? = some z ∧ Ev te ((wipe σ vs).set j (some (.int (a + (i : Nat) * c)))) H1 z) : EvL (tLc (iRng3 ta) (gName j) tYes te vs) σ H zs := fun H0 e Q q =>
  h1 H0 e _ fun H1 e1 => ⟨a, b, c, n, rfl, hr, fun D hD => lc_it walk_rangeC (fun i H' => Ex H1 H' ∧ H' D = some (.lst (zs.take i))) ⟨Ex.new hD, upd_same⟩ (fun _ _ _ _ => trivial) (by
    rintro i x H' H'' hi ⟨ex, hd⟩ ⟨rfl, rfl⟩
    obtain ⟨z, hz1, hz2⟩ := he i H'' ((e.trans e1).trans ex) hi
    refine ⟨hw _, ?_⟩
    refine hz2 _ (Ex.refl _) _ fun H4 e4 => ⟨zs.take i, e4 _ _ hd, sz_lt (by rw [List.length_take]; omega), ?_, ?_⟩
    · exact Ex.mut (ex.trans e4) hD
    · rw [upd_same, take_snoc hz1]) fun H' ⟨ex, hd⟩ => by
      rw [← hz, List.take_length] at hd
      exact q D H' (fresh_back e1 hD) (e1.trans ex) hd⟩
theorem rs_m6 (i : Int) (n : Nat) : Builtin.Range.rangeSize i (i - 6 * n) (-6) = (n : Int) := by
  unfold Builtin.Range.rangeSize
  rw [if_neg (by decide), show (-(-6) : Int) = 6 from rfl]
  split <;> omega
theorem rg_m6 {i : Int} {n : Nat} (hi : -(2 ^ 60) ≤ i ∧ i < 2 ^ 60) (hn : n ≤ 100000) : RgC i (i - 6 * n) (-6) n := by
  refine ⟨by decide, by decide, ?_, rs_m6 i n⟩
  unfold Builtin.Range.small
  rw [rs_m6]
  simp only [Builtin.Range.rangeFitsLong, Bool.and_eq_true, Bool.or_eq_true, decide_eq_true_eq, beq_iff_eq, show ¬ ((-6 : Int) > 0) by decide, if_false]
  omega
theorem rs_m8 (i : Int) (n : Nat) : Builtin.Range.rangeSize i (i - 8 * n) (-8) = (n : Int) := by
  unfold Builtin.Range.rangeSize
  rw [if_neg (by decide), show (-(-8) : Int) = 8 from rfl]
  split <;> omega
theorem rg_m8 {i : Int} {n : Nat} (hi : -(2 ^ 60) ≤ i ∧ i < 2 ^ 60) (hn : n ≤ 100000) : RgC i (i - 8 * n) (-8) n := by
  refine ⟨by decide, by decide, ?_, rs_m8 i n⟩
  unfold Builtin.Range.small
  rw [rs_m8]
  simp only [Builtin.Range.rangeFitsLong, Bool.and_eq_true, Bool.or_eq_true, decide_eq_true_eq, beq_iff_eq, show ¬ ((-8 : Int) > 0) by decide, if_false]
  omega
theorem rs_8 (i : Int) (n : Nat) : Builtin.Range.rangeSize i (i + 8 * n) (8) = (n : Int) := by
  unfold Builtin.Range.rangeSize
  rw [if_pos (by decide)]
  split <;> omega
theorem rg_8 {i : Int} {n : Nat} (hi : -(2 ^ 60) ≤ i ∧ i < 2 ^ 60) (hn : n ≤ 100000) : RgC i (i + 8 * n) (8) n := by
  refine ⟨by decide, by decide, ?_, rs_8 i n⟩
  unfold Builtin.Range.small
  rw [rs_8]
  simp only [Builtin.Range.rangeFitsLong, Bool.and_eq_true, Bool.or_eq_true, decide_eq_true_eq, beq_iff_eq, show ((8 : Int) > 0) by decide, if_true]
  omega
theorem rs_18 (i : Int) (n : Nat) : Builtin.Range.rangeSize i (i + 18 * n) (18) = (n : Int) := by
  unfold Builtin.Range.rangeSize
  rw [if_pos (by decide)]
  split <;> omega
theorem rg_18 {i : Int} {n : Nat} (hi : -(2 ^ 60) ≤ i ∧ i < 2 ^ 60) (hn : n ≤ 100000) : RgC i (i + 18 * n) (18) n := by
  refine ⟨by decide, by decide, ?_, rs_18 i n⟩
  unfold Builtin.Range.small
  rw [rs_18]
  simp only [Builtin.Range.rangeFitsLong, Bool.and_eq_true, Bool.or_eq_true, decide_eq_true_eq, beq_iff_eq, show ((18 : Int) > 0) by decide, if_true]
  omega
theorem rs_12 (i : Int) (n : Nat) : Builtin.Range.rangeSize i (i + 12 * n) (12) = (n : Int) := by
  unfold Builtin.Range.rangeSize
  rw [if_pos (by decide)]
  split <;> omega
theorem rg_12 {i : Int} {n : Nat} (hi : -(2 ^ 60) ≤ i ∧ i < 2 ^ 60) (hn : n ≤ 100000) : RgC i (i + 12 * n) (12) n := by
  refine ⟨by decide, by decide, ?_, rs_12 i n⟩
  unfold Builtin.Range.small
  rw [rs_12]
  simp only [Builtin.Range.rangeFitsLong, Bool.and_eq_true, Bool.or_eq_true, decide_eq_true_eq, beq_iff_eq, show ((12 : Int) > 0) by decide, if_true]
  omega

theorem rs8 (n : Nat) : Builtin.Range.rangeSize 0 ((8 * n : Nat) : Int) 8 = (n : Int) := by
  unfold Builtin.Range.rangeSize
  rw [if_pos (by decide)]
  split <;> omega
theorem rg8 {n : Nat} (h : n ≤ 100000) : RgC 0 ((8 * n : Nat) : Int) 8 n := by
  refine ⟨by decide, by decide, ?_, rs8 n⟩
  unfold Builtin.Range.small
  rw [rs8]
  have f : ∀ x : Int, 0 ≤ x → x ≤ 1000000 → Builtin.Range.rangeFitsLong x = true := fun x h1 h2 => by
    unfold Builtin.Range.rangeFitsLong
    rw [Bool.and_eq_true]
    exact ⟨decide_eq_true (by omega), decide_eq_true (by omega)⟩
  rw [f 0 (by decide) (by decide), f _ (by omega) (by omega), f 8 (by decide) (by decide), f (n : Int) (by omega) (by omega), if_pos (by decide), f _ (by omega) (by omega), Bool.or_true]
  rfl

theorem s_ext {σ : L2.St} {H : Hp} {ta te : TE} {D : Ends} {l : Addr} {xs zs : List V} (hl : H l = some (.lst xs)) (ha : Ev ta σ H (.ref l)) (he : EvR te σ H zs) (hs : xs.length + zs.length ≤ 100000) (k : ∀ H1, Ex H H1 → D.nx σ (upd H1 l (.lst (xs ++ zs)))) : tDrop (tBM K "list" rExtend ta (tCons te tNil)) D σ H :=
  ha H (Ex.refl H) _ fun H1 e1 => ⟨.inl ⟨rfl, _, sq_of (e1 _ _ hl)⟩, he H1 e1 _ fun b H2 e2 g2 => ⟨l, b, xs, zs, rfl, rfl, (e1.trans e2) _ _ hl, g2, sz_of hs, k H2 (e1.trans e2)⟩⟩
theorem q_ext {σ : L2.St} {H : Hp} {ta te : TE} {D : Ends} {tz : TS} {l : Addr} {xs zs : List V} (hl : H l = some (.lst xs)) (ha : Ev ta σ H (.ref l)) (he : EvR te σ H zs) (hs : xs.length + zs.length ≤ 100000) (k : ∀ H1, Ex H H1 → tz D σ (upd H1 l (.lst (xs ++ zs)))) : tSeq (tDrop (tBM K "list" rExtend ta (tCons te tNil))) tz D σ H := s_ext (D := { D with nx := tz D }) hl ha he hs k

/-! ### new lists, draws on the way -/
def EvLW (s : Addr) (te : TE) (σ : L2.St) (H : Hp) (P : List V → Prop) : Prop := ∀ Q : VK, (∀ p xs H2, H p = none → Fr s H H2 → H2 p = some (.lst xs) → P xs → Q (.ref p) H2) → te σ H Q
section
variable {s : Addr} {σ : L2.St} {H : Hp} {ta tb te : TE} {D : Ends} {tz tu : TS} {P : List V → Prop}
theorem wl_cat {xs : List V} (st : StAt H s) (ha : EvL ta σ H xs) (hb : ∀ H1, Fr s H H1 → EvLW s tb σ H1 P) (hl : ∀ ys, P ys → xs.length + ys.length ≤ 100000) : EvLW s (tOp rCat ta tb) σ H (fun zs => ∃ ys, P ys ∧ zs = xs ++ ys) := fun Q k =>
  ha H (Ex.refl _) _ fun p H1 hp e1 g1 => hb H1 (Fr.ex st e1) _ fun r ys H2 hr f2 g2 hy => ⟨p, r, xs, ys, rfl, rfl, f2.l (ne_st st hp) g1, g2, sz_of (hl ys hy), fun l hl' => by
    have f02 : Fr s H H2 := (Fr.ex st e1).trans f2
    exact k l _ _ (f02.fresh hl') (f02.tex (Ex.new hl')) upd_same ⟨ys, hy, rfl⟩⟩
theorem qw_asgL {i : Nat} (h : EvLW s te σ H P) (k : ∀ p xs H1, H p = none → Fr s H H1 → H1 p = some (.lst xs) → P xs → tz D (σ.set i (some (.ref p))) H1) : tSeq (tAsg te (gName i)) tz D σ H := h _ k
theorem sw_asgL {i : Nat} (h : EvLW s te σ H P) (k : ∀ p xs H1, H p = none → Fr s H H1 → H1 p = some (.lst xs) → P xs → D.nx (σ.set i (some (.ref p))) H1) : tAsg te (gName i) D σ H := h _ k
/-- [e for j in range(n)], n drawn, e draws -/
theorem tlc_rngWW {te0 : TE} {vs : List Nat} {j : Nat} {Q : VK} {p : Int → Prop} (h : EvI s te0 σ H p) (hp : ∀ i, p i → 0 ≤ i ∧ i ≤ 100000)
    (k : ∀ n H1, p n → Fr s H H1 → ∀ Dl, H1 Dl = none → ∃ Pv : Nat → Hp → Prop, Pv 0 (upd H1 Dl (.lst [])) ∧ (∀ (i : Nat) H', i < n.toNat → Pv i H' → wipe ((wipe σ vs).set j (some (.int (i : Int)))) vs = wipe σ vs ∧ te ((wipe σ vs).set j (some (.int (i : Int)))) H' fun y H4 => ∃ acc, H4 Dl = some (.lst acc) ∧ acc.length < sizeLine ∧ Pv (i + 1) (upd H4 Dl (.lst (acc ++ [y])))) ∧ (∀ H', Pv n.toNat H' → Q (.ref Dl) H')) :
    tLc (iRng1 (tCons te0 tNil)) (gName j) tYes te vs σ H Q := h _ fun n H1 f1 hn => ⟨n, rfl, by have := hp n hn; omega, by have := hp n hn; omega, fun Dl hD => by
  obtain ⟨Pv, h0, hs, hd⟩ := k n H1 hn f1 Dl hD
  refine lc_range (lo := 0) (n := n.toNat) Pv h0 (fun i H' hi p => ?_) hd
  rw [Int.zero_add]
  exact hs i H' hi p⟩
end

theorem wl_junk {s a : Addr} {ns : List Int} {σ : L2.St} {H : Hp} {tn : TE} {E : XK} {i j : Nat} {p : Int → Prop} (hd : DrS K H s a ns) (h1 : σ[i]? = some (some (.ref s))) (h2 : σ[j]? = some (some (.ref a))) (h3 : EvI s tn σ H p) (hp : ∀ z, p z → 0 ≤ z ∧ z ≤ 1000) :
    EvLW s (tCall (sp_junk K) [] E (tCons (tVar i) (tCons (tVar j) (tCons tn tNil)))) σ H (fun xs => ∃ ds : List Nat, xs = (cs ds).map V.int ∧ ds.length ≤ 1000 ∧ p (ds.length : Int) ∧ ∀ d ∈ ds, d < 256) := fun Q q =>
  ⟨_, h1, ⟨_, h2, h3 _ fun n H1 f1 hn => by
    have hn2 := hp n hn
    exact ⟨s, a, ns, n.toNat, by rw [Int.toNat_of_nonneg hn2.1]; rfl, hd.fr f1, by omega, fun r ds H2 hr f2 g2 hl hb => q r _ H2 (f1.fresh hr) (f1.trans f2) g2 ⟨ds, rfl, by omega, by rw [hl, Int.toNat_of_nonneg hn2.1]; exact hn, hb⟩⟩⟩⟩
theorem sw_setLR {s : Addr} {σ : L2.St} {H : Hp} {te ta tb : TE} {l : Addr} {xs : List V} {j : Nat} {D : Ends} {P : V → Prop} (h : ∀ Q : VK, (∀ v H1, Fr s H H1 → P v → Q v H1) → te σ H Q) (hls : l ≠ s) (hl : H l = some (.lst xs)) (ho : ∀ H1, Ev ta σ H1 (.ref l)) (hi : ∀ H1, Ev tb σ H1 (.int (j : Int))) (hj : j < xs.length) (k : ∀ v H1, P v → Fr s H H1 → D.nx σ (upd H1 l (.lst (xs.set j v)))) : tAsg te (gSub ta tb rSetL) D σ H :=
  h _ fun v H1 f1 hv => ho H1 H1 (Ex.refl _) _ fun H2 e2 => hi H2 H2 (Ex.refl _) _ fun H3 e3 => ⟨l, xs, (j : Int), j, rfl, rfl, (e2.trans e3) l _ (f1.l hls hl), ixN_nat hj, k v H3 hv (f1.tex (e2.trans e3))⟩
theorem qw_setLR {s : Addr} {σ : L2.St} {H : Hp} {te ta tb : TE} {l : Addr} {xs : List V} {j : Nat} {D : Ends} {tz : TS} {P : V → Prop} (h : ∀ Q : VK, (∀ v H1, Fr s H H1 → P v → Q v H1) → te σ H Q) (hls : l ≠ s) (hl : H l = some (.lst xs)) (ho : ∀ H1, Ev ta σ H1 (.ref l)) (hi : ∀ H1, Ev tb σ H1 (.int (j : Int))) (hj : j < xs.length) (k : ∀ v H1, P v → Fr s H H1 → tz D σ (upd H1 l (.lst (xs.set j v)))) : tSeq (tAsg te (gSub ta tb rSetL)) tz D σ H := sw_setLR (D := { D with nx := tz D }) h hls hl ho hi hj k
/-- a list of mine may change -/
theorem Fr.upd {s l : Addr} {H1 : Hp} {o : HO} (h : StAt H1 s) (hl : l ≠ s) : StAt (upd H1 l o) s := by obtain ⟨k, c, g⟩ := h; exact ⟨k, c, by rw [upd_ne (Ne.symm hl)]; exact g⟩
theorem cs_inj {a b : List Nat} (h : cs a = cs b) : a = b := by
  unfold cs at h
  exact (List.map_inj_right fun x y e => Int.ofNat.inj e).mp h
theorem cs_eqd (a b : List Nat) : decide (cs a = cs b) = decide (a = b) := decide_eq_decide.mpr ⟨cs_inj, fun h => by rw [h]⟩
theorem cs_set (ds : List Nat) (i d : Nat) : (cs ds).set i (d : Int) = cs (ds.set i d) := by unfold cs; rw [List.map_set]

/-- the same, asked while an exception is handled -/
theorem okh_law_is_integer (T : TX K mg) : L2H.FnH P w K mg base CX0 1 T.a_law_is_integer T.d_law_is_integer ["actual"] sp_isint := by
  refine T.F_law_is_integer.okH sc_law_is_integer (fun vs H Q E h => by obtain ⟨n, rfl, _⟩ := h; rfl) (fun cdv A outer s H vs Q E p hr h => ?_)
  obtain ⟨n, rfl, k⟩ := h
  refine ⟨_, (pss_one (ps_ret (pe_and (pe_callB (r := rIsi K) call_isi (by rfl) T.m_isinstance PyProof.Rows.boot_isinstance (pa_cons (pv 0) (pa_cons (pe_bltn (v := V.ty "int") (by rfl) T.m_int PyProof.Rows.boot_int rfl) pa_nil))) (pe_one (pe_not (pe_callB (r := rIsi K) call_isi (by rfl) T.m_isinstance PyProof.Rows.boot_isinstance (pa_cons (pv 0) (pa_cons (pe_bltn (v := V.ty "bool") (by rfl) T.m_bool PyProof.Rows.boot_bool rfl) pa_nil)))))))), ?_⟩
  walk_at "ret"
  intro H2 e2
  exact ret_eq k e2 rfl
theorem ev_isintH {σ : L2.St} {H : Hp} {te : TE} {E : L2.St → XK} {n : Int} (h : Ev te σ H (.int n)) : Ev (tCallS sp_isint E (tCons te tNil)) σ H (.bl true) := fun H1 e Q q =>
  h H1 e _ fun H2 e2 => ⟨n, rfl, fun H3 e3 => q H3 (e2.trans e3)⟩

/-! ### code points and their bytes -/
def ptN (p : Nat) : Nat := if p < 128 then 1 else if p < 2048 then 2 else if p < 65536 then 3 else 4
def ptB (p : Nat) : List Nat := if p < 128 then [p] else if p < 2048 then [192 + p / 64, 128 + p % 64] else if p < 65536 then [224 + p / 4096, 128 + p / 64 % 64, 128 + p % 64] else [240 + p / 262144, 128 + p / 4096 % 64, 128 + p / 64 % 64, 128 + p % 64]
theorem ptB_len (p : Nat) : (ptB p).length = ptN p := by unfold ptB ptN; split; rfl; split; rfl; split <;> rfl
theorem ptN_bd (p : Nat) : 1 ≤ ptN p ∧ ptN p ≤ 4 := by unfold ptN; split; omega; split; omega; split <;> omega
theorem ptB_lt {p : Nat} (h : p < 2097152) : ∀ d ∈ ptB p, d < 256 := fun d hd => by
  unfold ptB at hd
  split at hd
  · rw [List.mem_singleton.mp hd]; omega
  split at hd
  · rcases List.mem_cons.mp hd with rfl | hd
    · omega
    · rw [List.mem_singleton.mp hd]; omega
  split at hd
  · rcases List.mem_cons.mp hd with rfl | hd
    · omega
    rcases List.mem_cons.mp hd with rfl | hd
    · omega
    · rw [List.mem_singleton.mp hd]; omega
  · rcases List.mem_cons.mp hd with rfl | hd
    · omega
    rcases List.mem_cons.mp hd with rfl | hd
    · omega
    rcases List.mem_cons.mp hd with rfl | hd
    · omega
    · rw [List.mem_singleton.mp hd]; omega
def sp_pcount : Sp := fun vs H Q _ => ∃ p : Nat, vs = [.int (p : Int)] ∧ RetV (.int (ptN p : Int)) H Q
theorem ok_point_count (T : TX K mg) : FnOk P w K mg base CX0 1 T.a_point_count T.d_point_count ["point"] sp_pcount := by
  refine T.F_point_count.ok sc_point_count (fun vs H Q E h => by obtain ⟨p, rfl, _⟩ := h; rfl) (fun cdv A outer s0 H vs Q E hr h => ?_)
  obtain ⟨p, rfl, k⟩ := h
  refine ⟨_, (pss_cons (ps_if (pt_cmpR op_lt (pv 0) pe_int (nomark _)) (pss_one (ps_ret pe_int)) pss_nil)
      (pss_cons (ps_if (pt_cmpR op_lt (pv 0) pe_int (nomark _)) (pss_one (ps_ret pe_int)) pss_nil)
      (pss_cons (ps_if (pt_cmpR op_lt (pv 0) pe_int (nomark _)) (pss_one (ps_ret pe_int)) pss_nil)
      (pss_one (ps_ret pe_int))))), ?_⟩
  unfold ptN at k
  refine q_when (b := decide (p < 128)) (et_is (et_test (ev_I0 (ev_var rfl) ev_c)) (decide_eq_decide.mpr (by omega))) (fun h H1 e1 => ?_) (fun h H1 e1 => ?_)
  · rw [if_pos (of_decide_eq_true h)] at k
    exact s_ret ev_c fun H2 e2 => k.go (e1.trans e2)
  rw [if_neg (of_decide_eq_false h)] at k
  refine q_when (b := decide (p < 2048)) (et_is (et_test (ev_I0 (ev_var rfl) ev_c)) (decide_eq_decide.mpr (by omega))) (fun h H2 e2 => ?_) (fun h H2 e2 => ?_)
  · rw [if_pos (of_decide_eq_true h)] at k
    exact s_ret ev_c fun H3 e3 => k.go (e1.trans (e2.trans e3))
  rw [if_neg (of_decide_eq_false h)] at k
  refine q_when (b := decide (p < 65536)) (et_is (et_test (ev_I0 (ev_var rfl) ev_c)) (decide_eq_decide.mpr (by omega))) (fun h H3 e3 => ?_) (fun h H3 e3 => ?_)
  · rw [if_pos (of_decide_eq_true h)] at k
    exact s_ret ev_c fun H4 e4 => k.go (e1.trans (e2.trans (e3.trans e4)))
  rw [if_neg (of_decide_eq_false h)] at k
  exact s_ret ev_c fun H4 e4 => k.go (e1.trans (e2.trans (e3.trans e4)))
theorem ev_pcount {σ : L2.St} {H : Hp} {te : TE} {E : XK} {p : Nat} (h : Ev te σ H (.int (p : Int))) : Ev (tCall sp_pcount [] E (tCons te tNil)) σ H (.int (ptN p : Int)) := ev_call (ea_cons h ea_nil) fun H1 _ Q q _ => ⟨p, rfl, q⟩
def leastN (c : Nat) : Nat := 256 - 256 / 2 ^ c
def sp_least : Sp := fun vs H Q _ => ∃ c : Nat, vs = [.int (c : Int)] ∧ RetV (.int (leastN c : Int)) H Q
theorem ok_least_first (T : TX K mg) : FnOk P w K mg base CX0 1 T.a_least_first T.d_least_first ["count"] sp_least := by
  refine T.F_least_first.ok sc_least_first (fun vs H Q E h => by obtain ⟨c, rfl, _⟩ := h; rfl) (fun cdv A outer s0 H vs Q E hr h => ?_)
  obtain ⟨c, rfl, k⟩ := h
  refine ⟨_, (pss_one (ps_ret (pe_op op_sub pe_int (pe_op op_shr pe_int (pv 0))))), ?_⟩
  refine s_ret (v := .int (leastN c : Int)) (Ev.is (ev_I0 ev_c (ev_I ev_c (ev_var rfl) (by show (0 : Int) ≤ _; omega))) (congrArg V.int ?_)) k
  rw [Int.toNat_natCast, p2n]
  have h1 : (256 : Int) / ((2 ^ c : Nat) : Int) = ((256 / 2 ^ c : Nat) : Int) := by rw [Int.natCast_ediv]; rfl
  have h2 : 256 / 2 ^ c ≤ 256 := Nat.div_le_self _ _
  unfold leastN
  omega
theorem ev_least {σ : L2.St} {H : Hp} {te : TE} {E : XK} {c : Nat} (h : Ev te σ H (.int (c : Int))) : Ev (tCall sp_least [] E (tCons te tNil)) σ H (.int (leastN c : Int)) := ev_call (ea_cons h ea_nil) fun H1 _ Q q _ => ⟨c, rfl, q⟩
theorem and_mask63 (x : Nat) : Builtin.bitAnd (x : Int) 63 = ((x % 64 : Nat) : Int) := by
  have h := _root_.Bits.bitAnd_mask (x := (x : Int)) 6 (by omega)
  have e : (2 : Int) ^ 6 - 1 = 63 := rfl
  rw [e] at h
  rw [h]
  have e2 : (2 : Int) ^ 6 = 64 := rfl
  rw [e2]
  omega
theorem ev_shrN {σ : L2.St} {H : Hp} {t1 t2 : TE} {x j : Nat} (h1 : Ev t1 σ H (.int (x : Int))) (h2 : Ev t2 σ H (.int (j : Int))) : Ev (tOp (rI (fun _ j => 0 ≤ j) fun i j => .int (i / 2 ^ j.toNat)) t1 t2) σ H (.int ((x / 2 ^ j : Nat) : Int)) :=
  Ev.is (ev_I h1 h2 (by omega)) (congrArg V.int (show (x : Int) / 2 ^ (j : Int).toNat = ((x / 2 ^ j : Nat) : Int) by rw [Int.toNat_natCast, p2n, Int.natCast_ediv]))
theorem ev_and63 {σ : L2.St} {H : Hp} {te : TE} {x : Nat} (h : Ev te σ H (.int (x : Int))) : Ev (tOp (rI0 fun i j => .int (Builtin.bitAnd i j)) te (tC (.int 63))) σ H (.int ((x % 64 : Nat) : Int)) := Ev.is (ev_I0 h ev_c) (congrArg V.int (and_mask63 x))

def sp_pbytes : Sp := fun vs H Q _ => ∃ p : Nat, vs = [.int (p : Int)] ∧ p < 2097152 ∧ RetL ((cs (ptB p)).map V.int) H Q
theorem ptB_many {p n : Nat} (hn : ptN p = n + 2) : ptB p = (List.range (n + 2)).map fun i => if i = 0 then leastN (n + 2) + p / 2 ^ (6 * (n + 1)) else 128 + p / 2 ^ (6 * (n + 1 - i)) % 64 := by
  have h4 := ptN_bd p
  have : n = 0 ∨ n = 1 ∨ n = 2 := by omega
  unfold ptN at hn
  unfold ptB
  rcases this with rfl | rfl | rfl
  · have h : ¬ p < 128 ∧ p < 2048 := by split at hn; omega; split at hn; omega; split at hn <;> omega
    rw [if_neg h.1, if_pos h.2]
    show _ = [leastN 2 + p / 64, 128 + p / 1 % 64]
    rw [Nat.div_one]
    rfl
  · have h : ¬ p < 128 ∧ ¬ p < 2048 ∧ p < 65536 := by split at hn; omega; split at hn; omega; split at hn <;> omega
    rw [if_neg h.1, if_neg h.2.1, if_pos h.2.2]
    show _ = [leastN 3 + p / 4096, 128 + p / 64 % 64, 128 + p / 1 % 64]
    rw [Nat.div_one]
    rfl
  · have h : ¬ p < 128 ∧ ¬ p < 2048 ∧ ¬ p < 65536 := by split at hn; omega; split at hn; omega; split at hn <;> omega
    rw [if_neg h.1, if_neg h.2.1, if_neg h.2.2]
    show _ = [leastN 4 + p / 262144, 128 + p / 4096 % 64, 128 + p / 64 % 64, 128 + p / 1 % 64]
    rw [Nat.div_one]
    rfl
theorem ok_point_bytes (T : TX K mg) : FnOk P w K mg base CX0 2 T.a_point_bytes T.d_point_bytes ["point"] sp_pbytes := by
  refine T.F_point_bytes.ok sc_point_bytes (fun vs H Q E h => by obtain ⟨p, rfl, _⟩ := h; rfl) (fun cdv A outer s0 H vs Q E hr h => ?_)
  obtain ⟨p, rfl, hp, k⟩ := h
  refine ⟨_, (pss_cons (ps_set (i := 1) sc_point_bytes.nd rfl (Or.inl rfl) (pe_call (ok_point_count T) (hr.mono (by decide)) (by rfl) T.g_point_count T.F_point_count.kp T.b_point_count .nil pass0 (pa_cons (pv 0) pa_nil)))
      (pss_cons (ps_if (pt_cmpR op_eq (pv 1) pe_int (nomark _)) (pss_one (ps_ret (pe_lst (pa_cons (pv 0) pa_nil)))) pss_nil)
      (pss_cons (ps_set (i := 2) sc_point_bytes.nd rfl (Or.inl rfl) (pe_lst (pa_cons (pe_op op_add (pe_call (ok_least_first T) (hr.mono (by decide)) (by rfl) T.g_least_first T.F_least_first.kp T.b_least_first .nil pass0 (pa_cons (pv 1) pa_nil)) (pe_op op_shr (pv 0) (pe_op op_sub (pe_op op_mul pe_int (pv 1)) pe_int))) pa_nil)))
      (pss_cons (ps_for PassesOwn.never rfl (pi_range3 (by rfl) T.m_range (pa_cons (pe_op op_sub (pe_op op_mul pe_int (pv 1)) pe_int) (pa_cons (pe_un un_neg pe_int) (pa_cons (pe_un un_neg pe_int) pa_nil)))) (pg_name (i := 3) sc_point_bytes.nd rfl (Or.inl rfl)) (pss_one (ps_expr (pe_bm PySem.F.plainAttrs_list PySem.F.slot_list_append PySem.F.type_list_append mt_append (pv 2) (pa_cons (pe_op op_add pe_int (pe_op op_and (pe_op op_shr (pv 0) (pv 3)) pe_int)) pa_nil)))))
      (pss_one (ps_ret (pv 2))))))), ?_⟩
  refine q_asg (ev_pcount (ev_var rfl)) fun H1 e1 => ?_
  have h4 := ptN_bd p
  refine q_when (b := decide (ptN p = 1)) (et_is (et_test (ev_eq (ev_var rfl) ev_c rfl)) (by rw [decide_eq_decide]; exact ⟨fun h => by have := V.int.inj h; omega, fun h => by rw [h]; rfl⟩)) (fun h H2 e2 => ?_) (fun h H2 e2 => ?_)
  · have h : ptN p = 1 := of_decide_eq_true h
    have hb : ptB p = [p] := by unfold ptN at h; unfold ptB; split at h; rw [if_pos (by assumption)]; split at h; omega; split at h <;> omega
    rw [hb] at k
    exact s_retL (el_lst (ea_cons (ev_var rfl) ea_nil) (Nat.le_of_ble_eq_true rfl)) fun q H3 hq e3 g3 => k.go (e1.trans e2) hq e3 g3
  have h : ¬ ptN p = 1 := of_decide_eq_false h
  obtain ⟨n, hn⟩ : ∃ n, ptN p = n + 2 := ⟨ptN p - 2, by omega⟩
  rw [ptB_many hn] at k
  rw [hn]
  generalize hg : (fun i => if i = 0 then leastN (n + 2) + p / 2 ^ (6 * (n + 1)) else 128 + p / 2 ^ (6 * (n + 1 - i)) % 64) = g at k
  have g0 : g 0 = leastN (n + 2) + p / 2 ^ (6 * (n + 1)) := by rw [← hg]; rfl
  have g1 : ∀ i, g (i + 1) = 128 + p / 2 ^ (6 * (n - i)) % 64 := fun i => by rw [← hg]; show 128 + p / 2 ^ (6 * (n + 1 - (i + 1))) % 64 = _; rw [show n + 1 - (i + 1) = n - i by omega]
  refine q_asgL (xs := (cs ((List.range 1).map g)).map V.int) (EvL.is (el_lst (ea_cons (Ev.is (ev_I0 (ev_least (ev_var rfl)) (ev_shrN (j := 6 * (n + 1)) (ev_var rfl) (Ev.is (ev_I0 (ev_I ev_c (ev_var rfl) (.inl (by decide))) ev_c) (congrArg V.int (by omega))))) (congrArg V.int (show _ = ((g 0 : Nat) : Int) by rw [g0]; omega))) ea_nil) (Nat.le_of_ble_eq_true rfl)) rfl) fun q H3 hq e3 g3 => ?_
  have hqH := fresh_back (e1.trans e2) hq
  refine q_forRC (n := n + 1) (a := 6 * ((n : Int) + 2) - 12) (b := -6) (c := -6) (ea_cons (Ev.is (ev_I0 (ev_I ev_c (ev_var rfl) (.inl (by decide))) ev_c) (congrArg V.int (by omega))) (ea_cons (ev_negI ev_c) (ea_cons (ev_negI ev_c) ea_nil))) (by have := rg_m6 (i := 6 * ((n : Int) + 2) - 12) (n := n + 1) (by omega) (by omega); rwa [show 6 * ((n : Int) + 2) - 12 - 6 * ((n + 1 : Nat) : Int) = -6 by omega] at this) (fun i σ' H' => ∃ z, σ' = [some (.int (p : Int)), some (.int ((n + 2 : Nat) : Int)), some (.ref q), z] ∧ Ex H H' ∧ H' q = some (.lst ((cs ((List.range (i + 1)).map g)).map V.int))) (fun H4 e4 => ⟨none, rfl, (e1.trans e2).trans (e3.trans e4), e4 _ _ g3⟩) ?_ ?_
  · rintro i σ' H4 hi ⟨z, rfl, ex, gq⟩
    have hsh : 6 * ((n : Int) + 2) - 12 + (i : Int) * (-6) = ((6 * (n - i) : Nat) : Int) := by omega
    refine s_app (v := .int ((g (i + 1) : Nat) : Int)) gq (ev_var rfl) (Ev.is (ev_I0 ev_c (ev_and63 (ev_shrN (j := 6 * (n - i)) (ev_var rfl) (Ev.is (ev_var rfl) (congrArg V.int hsh))))) (congrArg V.int (by rw [g1]; omega))) (by rw [List.length_map, cs_len, List.length_map, List.length_range]; omega) fun H5 e5 => ⟨_, rfl, Ex.mut (ex.trans e5) hqH, ?_⟩
    rw [upd_same, List.range_succ (n := i + 1), List.map_append, cs_append, List.map_append]
    rfl
  · rintro σ' H4 ⟨z, rfl, ex, gq⟩
    exact s_ret (v := .ref q) (ev_var rfl) fun H5 e5 => k q H5 hqH (ex.trans e5) (e5 _ _ gq)
theorem el_pbytes {σ : L2.St} {H : Hp} {te : TE} {E : XK} {p : Nat} (h : Ev te σ H (.int (p : Int))) (hp : p < 2097152) : EvL (tCall sp_pbytes [] E (tCons te tNil)) σ H ((cs (ptB p)).map V.int) := el_call (ea_cons h ea_nil) fun H1 _ Q q _ => ⟨p, rfl, hp, q⟩
def utfB (ts : List Nat) : List Nat := ts.flatMap ptB
theorem utfB_len (ts : List Nat) : ts.length ≤ (utfB ts).length ∧ (utfB ts).length ≤ 4 * ts.length := by
  induction ts with
  | nil => exact ⟨Nat.le_refl _, Nat.le_refl _⟩
  | cons t r ih =>
    have := ptN_bd t
    show (t :: r).length ≤ (ptB t ++ utfB r).length ∧ (ptB t ++ utfB r).length ≤ 4 * (t :: r).length
    rw [List.length_append, ptB_len, List.length_cons]
    omega
theorem utfB_snoc {ts : List Nat} {i p : Nat} (h : ts[i]? = some p) : utfB (ts.take (i + 1)) = utfB (ts.take i) ++ ptB p := by
  unfold utfB
  rw [show ts.take (i + 1) = ts.take i ++ [p] from by rw [List.take_add_one, h]; rfl, List.flatMap_append]
  show _ ++ (ptB p ++ []) = _
  rw [List.append_nil]
theorem utfB_lt {ts : List Nat} (h : ∀ t ∈ ts, t < 2097152) : ∀ d ∈ utfB ts, d < 256 := fun d hd => by
  obtain ⟨t, ht, hd⟩ := List.mem_flatMap.mp hd
  exact ptB_lt (h t ht) d hd
def sp_wutf (K : PySem.W.Frag) : Sp := fun vs H Q _ => ∃ (a : Addr) (ts : List Nat), vs = [.ref a] ∧ SqL K H a ((cs ts).map V.int) ∧ ts.length ≤ 10000 ∧ (∀ t ∈ ts, t < 2097152) ∧ RetL ((cs (utfB ts)).map V.int) H Q
theorem ok_write_utf8 (T : TX K mg) : FnOk P w K mg base CX0 3 T.a_write_utf8 T.d_write_utf8 ["text"] (sp_wutf K) := by
  refine T.F_write_utf8.ok sc_write_utf8 (fun vs H Q E h => by obtain ⟨a, ts, rfl, _⟩ := h; rfl) (fun cdv A outer s0 H vs Q E hr h => ?_)
  obtain ⟨a, ts, rfl, hS, hl, ht, k⟩ := h
  refine ⟨_, (pss_cons (ps_set (i := 1) sc_write_utf8.nd rfl (Or.inl rfl) (pe_lst pa_nil))
      (pss_cons (ps_for PassesOwn.never rfl (pi_list (pv 0)) (pg_name (i := 2) sc_write_utf8.nd rfl (Or.inl rfl)) (pss_one (ps_expr (pe_bm PySem.F.plainAttrs_list PySem.F.slot_list_extend PySem.F.type_list_extend mt_extend (pv 1) (pa_cons (pe_call (ok_point_bytes T) (hr.mono (by decide)) (by rfl) T.g_point_bytes T.F_point_bytes.kp T.b_point_bytes .nil pass0 (pa_cons (pv 2) pa_nil)) pa_nil)))))
      (pss_one (ps_ret (pv 1))))), ?_⟩
  refine q_asgL (xs := []) (el_lst ea_nil (by decide)) fun q H1 hq e1 g1 => ?_
  refine q_forLn (K := K) (a := a) (ev_var rfl) (ex_l e1 hS) (fun i σ' H' => ∃ z, σ' = [some (.ref a), some (.ref q), z] ∧ Ex H H' ∧ H' q = some (.lst ((cs (utfB (ts.take i))).map V.int))) (fun H2 e2 => ⟨none, rfl, e1.trans e2, e2 _ _ g1⟩) (fun i σ' H' _ h => by obtain ⟨_, _, ex, _⟩ := h; exact ex_l ex hS) ?_ ?_
  · rintro i x σ' H2 hx ⟨z, rfl, ex, gq⟩
    obtain ⟨p, hp, hi, rfl⟩ := cs_get hx
    have h1 := utfB_len (ts.take i)
    have h2 := ptN_bd p
    rw [List.length_take] at h1
    refine s_ext gq (ev_var rfl) (EvL.r (el_pbytes (ev_var rfl) (ht p (List.mem_of_getElem? hp)))) (by rw [List.length_map, cs_len, List.length_map, cs_len, ptB_len]; omega) fun H3 e3 => ⟨_, rfl, Ex.mut (ex.trans e3) hq, ?_⟩
    rw [upd_same, utfB_snoc hp, cs_append, List.map_append]
  · rintro σ' H2 ⟨z, rfl, ex, gq⟩
    rw [List.length_map, cs_len, List.take_length] at gq
    exact s_ret (v := .ref q) (ev_var rfl) fun H3 e3 => k q H3 hq (ex.trans e3) (e3 _ _ gq)
theorem el_wutf {σ : L2.St} {H : Hp} {te : TE} {E : XK} {ts : List Nat} (h : EvS K te σ H ((cs ts).map V.int)) (hl : ts.length ≤ 10000) (ht : ∀ t ∈ ts, t < 2097152) : EvL (tCall (sp_wutf K) [] E (tCons te tNil)) σ H ((cs (utfB ts)).map V.int) := fun H1 e Q q =>
  h H1 e _ fun p H2 e2 hp => ⟨p, ts, rfl, hp, hl, ht, fun r H3 hr e3 g3 => q r H3 (fresh_back e2 hr) (e2.trans e3) g3⟩

/-! ### reading what was written -/
def cntG (d : Nat) : Nat → Nat
  | 0 => 0
  | k + 1 => if leastN (4 - k) ≤ d ∧ d < leastN (4 - k + 1) then 4 - k else cntG d k
def cntT (d : Nat) : Nat := if d < 128 then 1 else cntG d 3
/-- for x in (a, b, ..), the tuple made on the way -/
theorem q_forNTn {σ : L2.St} {H : Hp} {D : Ends} {tu tz : TS} {xs : List V} {tl : TE} {j : Nat} (h : EvU tl σ H xs) (Pv : Addr → Nat → L2.St → Hp → Prop) (h0 : ∀ p H1, H p = none → Ex H H1 → H1 p = some (.tup xs) → Pv p 0 σ H1) (hl : ∀ p i σ' H', i ≤ xs.length → Pv p i σ' H' → SqT K H' p xs)
    (hs : ∀ p i x σ' H', xs[i]? = some x → Pv p i σ' H' → tu { D with nx := Pv p (i + 1), ct := Pv p (i + 1), bk := tz D } (σ'.set j (some x)) H') (hd : ∀ p σ' H', Pv p xs.length σ' H' → tz D σ' H') : tSeq (tFor (iTup K tl) (gName j) tu) tz D σ H :=
  h H (Ex.refl H) _ fun p H1 hp e h1 => ⟨p, rfl, ⟨xs, st_of h1⟩, for_tup (D := { D with nx := tz D }) (Pv p) (h0 p H1 hp e h1) (hl p) (hs p) (hd p)⟩
def sp_told : Sp := fun vs H Q _ => ∃ d : Nat, vs = [.int (d : Int)] ∧ RetV (.int (cntT d : Int)) H Q
theorem ok_count_told (T : TX K mg) : FnOk P w K mg base CX0 2 T.a_count_told T.d_count_told ["first"] sp_told := by
  refine T.F_count_told.ok sc_count_told (fun vs H Q E h => by obtain ⟨d, rfl, _⟩ := h; rfl) (fun cdv A outer s0 H vs Q E hr h => ?_)
  obtain ⟨d, rfl, k⟩ := h
  refine ⟨_, (pss_cons (ps_if (pt_cmpR op_lt (pv 0) pe_int (nomark _)) (pss_one (ps_ret pe_int)) pss_nil)
      (pss_cons (ps_for PassesOwn.never rfl (pi_tup (pe_tup (pa_cons pe_int (pa_cons pe_int (pa_cons pe_int pa_nil))))) (pg_name (i := 1) sc_count_told.nd rfl (Or.inl rfl)) (pss_one (ps_if (pt_chain op_le op_lt (pe_call (ok_least_first T) (hr.mono (by decide)) (by rfl) T.g_least_first T.F_least_first.kp T.b_least_first .nil pass0 (pa_cons (pv 1) pa_nil)) (pv 0) (pe_call (ok_least_first T) (hr.mono (by decide)) (by rfl) T.g_least_first T.F_least_first.kp T.b_least_first .nil pass0 (pa_cons (pe_op op_add (pv 1) pe_int) pa_nil))) (pss_one (ps_ret (pv 1))) pss_nil)))
      (pss_one (ps_ret pe_int)))), ?_⟩
  unfold cntT at k
  refine q_when (b := decide (d < 128)) (et_is (et_test (ev_I0 (ev_var rfl) ev_c)) (decide_eq_decide.mpr (by omega))) (fun h H1 e1 => ?_) (fun h H1 e1 => ?_)
  · rw [if_pos (of_decide_eq_true h)] at k
    exact s_ret ev_c fun H2 e2 => k.go (e1.trans e2)
  rw [if_neg (of_decide_eq_false h)] at k
  refine q_forNTn (K := K) (xs := [.int 2, .int 3, .int 4]) (eu_tup (ea_cons ev_c (ea_cons ev_c (ea_cons ev_c ea_nil))) (by decide)) (fun p i σ' H' => ∃ z, σ' = [some (.int (d : Int)), z] ∧ Ex H H' ∧ H' p = some (.tup [.int 2, .int 3, .int 4]) ∧ cntG d 3 = cntG d (3 - i)) (fun p H2 hp e2 g2 => ⟨none, rfl, e1.trans e2, g2, rfl⟩) (fun p i σ' H' _ h => by obtain ⟨_, _, _, g, _⟩ := h; exact st_of g) ?_ ?_
  · rintro p i x σ' H2 hx ⟨z, rfl, ex, g, hc⟩
    have hi : i < 3 ∧ x = .int ((2 + i : Nat) : Int) := by
      match i, hx with
      | 0, hx => exact ⟨by decide, (Option.some.inj hx).symm⟩
      | 1, hx => exact ⟨by decide, (Option.some.inj hx).symm⟩
      | 2, hx => exact ⟨by decide, (Option.some.inj hx).symm⟩
      | i + 3, hx => simp at hx
    obtain ⟨hi, rfl⟩ := hi
    have hst : cntG d (3 - i) = if leastN (2 + i) ≤ d ∧ d < leastN (2 + i + 1) then 2 + i else cntG d (3 - (i + 1)) := by
      rw [show 3 - i = (2 - i) + 1 by omega]
      show (if leastN (4 - (2 - i)) ≤ d ∧ d < leastN (4 - (2 - i) + 1) then 4 - (2 - i) else cntG d (2 - i)) = _
      rw [show 4 - (2 - i) = 2 + i by omega, show 2 - i = 3 - (i + 1) by omega]
    refine s_when (b := decide (leastN (2 + i) ≤ d ∧ d < leastN (2 + i + 1))) (et_is (et_test (ev_chain (ev_least (ev_var rfl)) (ev_var rfl) (ev_least (c := 2 + i + 1) (Ev.is (ev_I0 (ev_var rfl) ev_c) (congrArg V.int (by omega)))))) ?_) (fun h H3 e3 => ?_) (fun h H3 e3 => ?_)
    · rw [Bool.eq_iff_iff, Bool.and_eq_true, decide_eq_true_iff, decide_eq_true_iff, decide_eq_true_iff]
      omega
    · rw [hc, hst, if_pos (of_decide_eq_true h)] at k
      exact s_ret (ev_var rfl) fun H4 e4 => k.go (ex.trans (e3.trans e4))
    · exact ⟨_, rfl, ex.trans e3, e3 _ _ g, by rw [hc, hst, if_neg (of_decide_eq_false h)]⟩
  · rintro p σ' H2 ⟨z, rfl, ex, g, hc⟩
    have hc : cntG d 3 = 0 := hc
    rw [hc] at k
    exact s_ret ev_c fun H3 e3 => k.go (ex.trans e3)
theorem ev_told {σ : L2.St} {H : Hp} {te : TE} {E : XK} {d : Nat} (h : Ev te σ H (.int (d : Int))) : Ev (tCall sp_told [] E (tCons te tNil)) σ H (.int (cntT d : Int)) := ev_call (ea_cons h ea_nil) fun H1 _ Q q _ => ⟨d, rfl, q⟩

theorem wl_catR {s l : Addr} {σ : L2.St} {H : Hp} {ta tb : TE} {P : List V → Prop} {xs : List V} (st : StAt H s) (ha : Ev ta σ H (.ref l)) (hls : l ≠ s) (hx : H l = some (.lst xs)) (hb : ∀ H1, Fr s H H1 → EvLW s tb σ H1 P) (hl : ∀ ys, P ys → xs.length + ys.length ≤ 100000) : EvLW s (tOp rCat ta tb) σ H (fun zs => ∃ ys, P ys ∧ zs = xs ++ ys) := fun Q k =>
  ha H (Ex.refl _) _ fun H1 e1 => hb H1 (Fr.ex st e1) _ fun r ys H2 hr f2 g2 hy => ⟨l, r, xs, ys, rfl, rfl, f2.l hls (e1 _ _ hx), g2, sz_of (hl ys hy), fun q hq => by
    have f02 : Fr s H H2 := (Fr.ex st e1).trans f2
    exact k q _ _ (f02.fresh hq) (f02.tex (Ex.new hq)) upd_same ⟨ys, hy, rfl⟩⟩
theorem wl_rep {s : Addr} {σ : L2.St} {H : Hp} {ta tb : TE} {x : V} {p : Int → Prop} (st : StAt H s) (ha : EvL ta σ H [x]) (hb : ∀ H1, Fr s H H1 → EvI s tb σ H1 p) (hp : ∀ z, p z → 0 ≤ z ∧ z ≤ 1000) : EvLW s (tOp rRep ta tb) σ H (fun ys => ∃ n : Nat, p (n : Int) ∧ n ≤ 1000 ∧ ys = List.replicate n x) := fun Q k =>
  ha H (Ex.refl _) _ fun q H1 hq e1 g1 => hb H1 (Fr.ex st e1) _ fun i H2 f2 hi => ⟨q, i, [x], rfl, rfl, f2.l (ne_st st hq) g1, by have := hp i hi; omega, by have := hp i hi; omega, sz_of (by have := hp i hi; show 1 * i.toNat ≤ 100000; omega), fun l hl => by
    have h2 := hp i hi
    have f02 : Fr s H H2 := (Fr.ex st e1).trans f2
    exact k l _ _ (f02.fresh hl) (f02.tex (Ex.new hl)) upd_same ⟨i.toNat, by rw [Int.toNat_of_nonneg h2.1]; exact hi, by omega, rep_one _⟩⟩
theorem cs_rep (n x : Nat) : List.replicate n (V.int (x : Int)) = (cs (List.replicate n x)).map V.int := by
  unfold cs
  rw [List.map_replicate, List.map_replicate]
/-- xs[e], xs a list of numbers that stands there, e drawn -/
theorem wi_ixL {s : Addr} {σ : L2.St} {H : Hp} {ta tb : TE} {xs : List Nat} {q : Int → Prop} (st : StAt H s) (ha : EvL ta σ H ((cs xs).map V.int)) (hb : ∀ H1, Fr s H H1 → EvI s tb σ H1 q) (hq : ∀ z, q z → ∃ j : Nat, z = (j : Int) ∧ j < xs.length) : EvI s (tOp (rIxL K) ta tb) σ H (fun z => ∃ x : Nat, z = (x : Int) ∧ x ∈ xs) := fun Q k =>
  ha H (Ex.refl _) _ fun p H1 hp e1 g1 => hb H1 (Fr.ex st e1) _ fun i H2 f2 hi => by
    obtain ⟨j, rfl, hj⟩ := hq i hi
    have hx : xs[j]? = some xs[j] := List.getElem?_eq_getElem hj
    exact ⟨p, _, (j : Int), .int ((xs[j] : Nat) : Int), rfl, rfl, sq_of (f2.l (ne_st st hp) g1), at_of (j := j) rfl (at_int (cs_at hx)), k _ H2 ((Fr.ex st e1).trans f2) ⟨xs[j], rfl, List.mem_of_getElem? hx⟩⟩

/-! ### reading text that may be wrong -/
theorem cntT_eq (d : Nat) : cntT d = if d < 128 then 1 else if 192 ≤ d ∧ d < 224 then 2 else if 224 ≤ d ∧ d < 240 then 3 else if 240 ≤ d ∧ d < 248 then 4 else 0 := rfl
theorem cntT_le (d : Nat) : cntT d ≤ 4 := by rw [cntT_eq]; split; omega; split; omega; split; omega; split <;> omega
def headV (d n : Nat) : Nat := d - leastN n
theorem headV_lt {d n : Nat} (h : n = cntT d) (hd : d < 256) (hn : 2 ≤ n) : leastN n ≤ d ∧ headV d n < 64 := by
  have l2 : leastN 2 = 192 := rfl
  have l3 : leastN 3 = 224 := rfl
  have l4 : leastN 4 = 240 := rfl
  rw [cntT_eq] at h
  unfold headV
  split at h
  · omega
  split at h
  · subst h; omega
  split at h
  · subst h; omega
  split at h
  · subst h; omega
  omega
def foldP (h : Nat) (xs : List Nat) : Nat := xs.foldl (fun a b => a * 64 + (b - 128)) h
theorem foldP_snoc (h : Nat) (xs : List Nat) (b : Nat) : foldP h (xs ++ [b]) = foldP h xs * 64 + (b - 128) := by unfold foldP; rw [List.foldl_append]; rfl
def okB (b : Nat) : Bool := decide (128 ≤ b) && decide (b < 192)
theorem foldP_ltB : ∀ (xs : List Nat) (h B : Nat), h < B → (∀ b ∈ xs, okB b = true) → foldP h xs < B * 64 ^ xs.length
  | [], h, B, hh, _ => by rw [List.length_nil, Nat.pow_zero, Nat.mul_one]; exact hh
  | b :: xs, h, B, hh, hb => by
    have h2 := hb b (List.mem_cons_self ..)
    unfold okB at h2
    rw [Bool.and_eq_true, decide_eq_true_iff, decide_eq_true_iff] at h2
    have := foldP_ltB xs (h * 64 + (b - 128)) (B * 64) (by omega) fun x hx => hb x (List.mem_cons_of_mem _ hx)
    have e : B * 64 * 64 ^ xs.length = B * (64 ^ xs.length * 64) := by rw [Nat.mul_assoc, Nat.mul_comm 64]
    rw [e] at this
    rw [List.length_cons, Nat.pow_succ]
    exact this
theorem foldP_lt {h : Nat} (hh : h < 64) (xs : List Nat) (hb : ∀ b ∈ xs, okB b = true) : foldP h xs < 64 ^ (xs.length + 1) := by
  have := foldP_ltB xs h 64 hh hb
  rwa [Nat.mul_comm, ← Nat.pow_succ] at this
def minN (n : Nat) : Nat := if n = 2 then 128 else if n = 3 then 2048 else 65536
def badP (n p : Nat) : Bool := decide (p < minN n) || (decide (1114111 < p) || (decide (55296 ≤ p) && decide (p < 57344)))
theorem ptN_min {n p : Nat} (h2 : 2 ≤ n) (h4 : n ≤ 4) : decide (ptN p < n) = decide (p < minN n) := by
  rw [decide_eq_decide]
  have e2 : minN 2 = 128 := rfl
  have e3 : minN 3 = 2048 := rfl
  have e4 : minN 4 = 65536 := rfl
  unfold ptN
  have : n = 2 ∨ n = 3 ∨ n = 4 := by omega
  rcases this with rfl | rfl | rfl
  · rw [e2]; split; omega; split; omega; split <;> omega
  · rw [e3]; split; omega; split; omega; split <;> omega
  · rw [e4]; split; omega; split; omega; split <;> omega
def seqP (d n : Nat) (xs : List Nat) : Option Nat := if n = 1 then some d else if xs.all okB then (if badP n (foldP (headV d n) xs) then none else some (foldP (headV d n) xs)) else none
def seqF (ds : List Nat) (at_ stop : Nat) : Option (Nat × Nat) := if cntT (ds.getD at_ 0) = 0 ∨ stop < at_ + cntT (ds.getD at_ 0) then none else (seqP (ds.getD at_ 0) (cntT (ds.getD at_ 0)) ((ds.drop (at_ + 1)).take (cntT (ds.getD at_ 0) - 1))).map fun p => (p, cntT (ds.getD at_ 0))
theorem or_join64 {a b : Nat} (h : b < 64) : Builtin.bitOr ((a : Int) * 2 ^ (6 : Int).toNat) ((b : Nat) : Int) = ((a * 64 + b : Nat) : Int) := by
  have h := _root_.Bits.bitOr_join' (a := ((b : Nat) : Int)) (b := ((a : Nat) : Int)) (k := 6) (by omega) (by show _ < ((2 : Int) ^ 6); have e : ((2 : Int) ^ 6) = 64 := rfl; omega) (by omega)
  have e : (6 : Int).toNat = 6 := rfl
  rw [e, h]
  have e2 : ((2 : Int) ^ 6) = 64 := rfl
  omega
def RdErr (E : XK) (C : Addr) (nm : Str) (n : Nat) (H : Hp) : Prop := ∀ H' dd, Ex H H' → ErrD H' dd nm (n : Int) → E (.ref C) (some dd) H'
def sp_rpx (K : PySem.W.Frag) (CI : Addr) : Sp := fun vs H Q E => ∃ (a : Addr) (ds : List Nat) (pl d n : Nat), vs = [.ref a, .int (pl : Int), .int (n : Int)] ∧ SqL K H a ((cs ds).map V.int) ∧ ds.length ≤ 100000 ∧ ds[pl]? = some d ∧ d < 256 ∧ n = cntT d ∧ 1 ≤ n ∧ pl + n ≤ ds.length ∧ (∀ p, seqP d n ((ds.drop (pl + 1)).take (n - 1)) = some p → RetV (.int (p : Int)) H Q) ∧ (seqP d n ((ds.drop (pl + 1)).take (n - 1)) = none → RdErr E CI "InvalidText" pl H)
theorem ok_read_point (T : TX K mg) : FnOk P w K mg base (L2N.CX P w) 3 T.a_read_point T.d_read_point ["data", "place", "count"] (sp_rpx K T.C_InvalidText) := by
  refine T.F_read_point.okN sc_read_point (fun vs H Q E h => by obtain ⟨a, ds, pl, d, n, rfl, _⟩ := h; rfl) (fun cdv A outer s0 H vs Q E hr h => ?_)
  obtain ⟨a, ds, pl, d, n, rfl, hS, hdl, hd, hd256, hn, hn1, hfit, k, kE⟩ := h
  refine ⟨_, (pss_cons (ps_if (pt_cmpR op_eq (pv 2) pe_int (nomark _)) (pss_one (ps_ret (pe_ix (r := rIxL K) ix_list (pv 0) (pv 1) (fun _ _ => rfl)))) pss_nil)
      (pss_cons (ps_set (i := 3) sc_read_point.nd rfl (Or.inl rfl) (pe_op op_sub (pe_ix (r := rIxL K) ix_list (pv 0) (pv 1) (fun _ _ => rfl)) (pe_call (ok_least_first T) (hr.mono (by decide)) (by rfl) T.g_least_first T.F_least_first.kp T.b_least_first .nil pass0 (pa_cons (pv 2) pa_nil))))
      (pss_cons (ps_for (passes_of rfl) rfl (pi_list (pe_slice (r := rSlL K) sl_list (pv 0) (po_some (pe_op op_add (pv 1) pe_int)) (po_some (pe_op op_add (pv 1) (pv 2))))) (pg_name (i := 4) sc_read_point.nd rfl (Or.inl rfl)) (pss_cons (ps_if (PW.pt (pw_or (pt_cmpR op_lt (pv 4) pe_int (nomark _)) (pw_or1 (pt_cmpR op_gt (pv 4) pe_int (nomark _))))) (pss_one (L2N.ps_raise rfl (L2N.takes_of rfl rfl rfl rfl) (pmkN_oex T.x_InvalidText.ox T.x_InvalidText.iC T.ti_MonochordError_init (ok_MonochordError_init T) (hr.mono (by decide)) T.b_MonochordError_init .nil pass0 (by rfl) T.g_InvalidText (pa_cons (pv 1) pa_nil)))) pss_nil)
        (pss_one (ps_set (i := 3) sc_read_point.nd rfl (Or.inl rfl) (pe_op op_or (pe_op op_shl (pv 3) pe_int) (pe_op op_sub (pv 4) pe_int))))))
      (pss_cons (ps_if (PW.pt (pw_or (pt_cmpR op_gt (pv 3) pe_int (nomark _)) (pw_or (pt_chain op_le op_le pe_int (pv 3) pe_int) (pw_or1 (pt_cmpR op_lt (pe_call (ok_point_count T) (hr.mono (by decide)) (by rfl) T.g_point_count T.F_point_count.kp T.b_point_count .nil pass0 (pa_cons (pv 3) pa_nil)) (pv 2) (nomark _)))))) (pss_one (L2N.ps_raise rfl (L2N.takes_of rfl rfl rfl rfl) (pmkN_oex T.x_InvalidText.ox T.x_InvalidText.iC T.ti_MonochordError_init (ok_MonochordError_init T) (hr.mono (by decide)) T.b_MonochordError_init .nil pass0 (by rfl) T.g_InvalidText (pa_cons (pv 1) pa_nil)))) pss_nil)
      (pss_one (ps_ret (pv 3))))))), ?_⟩
  have hn4 : n ≤ 4 := by rw [hn]; exact cntT_le d
  have byte : ∀ {σ : L2.St} {H' : Hp}, σ[0]? = some (some (.ref a)) → σ[1]? = some (some (.int (pl : Int))) → Ex H H' → Ev (tOp (rIxL K) (tVar 0) (tVar 1)) σ H' (.int (d : Int)) := fun h1 h2 e => ev_ixS (i := 0) (n := (pl : Int)) (Ev.s (ev_var h1) (ex_l e hS)) (ev_var h2) (at_of (j := pl) rfl (at_int (cs_at hd)))
  obtain ⟨xs, hxs⟩ : ∃ xs, (ds.drop (pl + 1)).take (n - 1) = xs := ⟨_, rfl⟩
  rw [hxs] at k kE
  have hxl : xs.length = n - 1 := by rw [← hxs, List.length_take, List.length_drop]; omega
  unfold seqP at k kE
  refine q_when (b := decide (n = 1)) (et_is (et_test (ev_eq (ev_var rfl) ev_c rfl)) (by rw [decide_eq_decide]; exact ⟨fun h => by have := V.int.inj h; omega, fun h => by rw [h]; rfl⟩)) (fun h H1 e1 => ?_) (fun h H1 e1 => ?_)
  · rw [if_pos (of_decide_eq_true h)] at k
    exact s_ret (byte rfl rfl e1) fun H2 e2 => k d rfl H2 (e1.trans e2)
  have h : ¬ n = 1 := of_decide_eq_false h
  rw [if_neg h] at k kE
  obtain ⟨hld, hh64⟩ := headV_lt hn hd256 (by omega)
  refine q_asg (v := .int ((headV d n : Nat) : Int)) (Ev.is (ev_I0 (byte rfl rfl e1) (ev_least (ev_var rfl))) (congrArg V.int (by unfold headV; omega))) fun H2 e2 => ?_
  have e12 := e1.trans e2
  refine q_forNLn (K := K) (xs := (cs xs).map V.int) (EvL.is (el_mid (i := pl + 1) (j := pl + n) (Ev.s (ev_var rfl) (ex_l e12 hS)) (Ev.is (ev_I0 (ev_var rfl) ev_c) (congrArg V.int (by omega))) (Ev.is (ev_I0 (ev_var rfl) (ev_var rfl)) (congrArg V.int (by omega)))) (by rw [show pl + n - (pl + 1) = n - 1 by omega, cs_drop, cs_take, hxs])) (fun q i σ' H' => ∃ z, σ' = [some (.ref a), some (.int (pl : Int)), some (.int (n : Int)), some (.int ((foldP (headV d n) (xs.take i) : Nat) : Int)), z] ∧ Ex H H' ∧ H' q = some (.lst ((cs xs).map V.int)) ∧ ∀ b ∈ xs.take i, okB b = true) (fun q H3 hq e3 g3 => ⟨none, rfl, e12.trans e3, g3, fun b hb => by cases hb⟩) (fun q i σ' H' _ h => by obtain ⟨_, _, _, g, _⟩ := h; exact sq_of g) ?_ ?_
  · rintro q i x σ' H3 hx ⟨z, rfl, ex, gq, hokb⟩
    obtain ⟨b, hb, hi, rfl⟩ := cs_get hx
    have hlt := foldP_lt hh64 (xs.take i) hokb
    have hpw : 64 ^ ((xs.take i).length + 1) ≤ 64 ^ 4 := Nat.pow_le_pow_right (by decide) (by rw [List.length_take]; omega)
    have e644 : (64 : Nat) ^ 4 = 16777216 := rfl
    refine q_when (b := !okB b) (et_is (et_or (a := decide (b < 128)) (b := decide (191 < b)) (et_is (et_test (ev_I0 (ev_var rfl) ev_c)) (decide_eq_decide.mpr (by omega))) fun _ => et_is (et_test (ev_I0 (ev_var rfl) ev_c)) (decide_eq_decide.mpr (by omega))) (by
      unfold okB
      rw [Bool.eq_iff_iff, Bool.or_eq_true, decide_eq_true_iff, decide_eq_true_iff, Bool.not_eq_true', Bool.and_eq_false_iff, decide_eq_false_iff_not, decide_eq_false_iff_not]
      omega)) (fun hf H4 e4 => ?_) fun hf H4 e4 => ?_
    · have hf : okB b = false := by rwa [Bool.not_eq_true'] at hf
      refine mk_err T.x_InvalidText (ea_cons (ev_var rfl) ea_nil) fun H5 dd hdd e5 he => kE ?_ H5 dd (ex.trans (e4.trans e5)) he
      rw [if_neg (fun h => by rw [List.all_eq_true.mp h b (List.mem_of_getElem? hb)] at hf; cases hf)]
    have hf : okB b = true := by rwa [Bool.not_eq_false'] at hf
    have hf2 := hf
    unfold okB at hf2
    rw [Bool.and_eq_true, decide_eq_true_iff, decide_eq_true_iff] at hf2
    have htk : xs.take (i + 1) = xs.take i ++ [b] := by rw [List.take_add_one, hb]; rfl
    refine s_asg (v := .int ((foldP (headV d n) (xs.take (i + 1)) : Nat) : Int)) (Ev.is (ev_I0 (ev_I (ev_var rfl) ev_c (show CPow ((foldP (headV d n) (xs.take i) : Nat) : Int) 6 from ⟨by decide, by decide, by omega⟩)) (Ev.is (ev_I0 (ev_var rfl) ev_c) (congrArg V.int (show _ = ((b - 128 : Nat) : Int) by omega)))) (congrArg V.int (by rw [htk, foldP_snoc]; exact or_join64 (by omega)))) fun H5 e5 => ⟨_, rfl, ex.trans (e4.trans e5), (e4.trans e5) _ _ gq, fun y hy => ?_⟩
    rw [htk] at hy
    rcases List.mem_append.mp hy with h | h
    · exact hokb y h
    · rw [List.mem_singleton.mp h]
      exact hf
  · rintro q σ' H3 ⟨z, rfl, ex, gq, hokb⟩
    rw [List.length_map, cs_len, List.take_length] at hokb
    rw [List.length_map, cs_len, List.take_length]
    rw [if_pos (List.all_eq_true.mpr hokb)] at k kE
    generalize foldP (headV d n) xs = p at *
    refine q_when (b := badP n p) (et_is (et_or (a := decide (1114111 < p)) (b := (decide (55296 ≤ p) && decide (p < 57344)) || decide (p < minN n)) (et_is (et_test (ev_I0 (ev_var rfl) ev_c)) (decide_eq_decide.mpr (by omega))) fun _ => et_or (a := decide (55296 ≤ p) && decide (p < 57344)) (b := decide (p < minN n)) (et_is (et_test (ev_chain ev_c (ev_var rfl) ev_c)) ?_) fun _ => et_is (et_test (ev_I0 (ev_pcount (ev_var rfl)) (ev_var rfl))) (by rw [← ptN_min (by omega) hn4, decide_eq_decide]; omega)) (by unfold badP; cases decide (p < minN n) <;> cases decide (1114111 < p) <;> cases (decide (55296 ≤ p) && decide (p < 57344)) <;> rfl)) (fun hb H4 e4 => ?_) fun hb H4 e4 => ?_
    · rw [Bool.eq_iff_iff, Bool.and_eq_true, Bool.and_eq_true, decide_eq_true_iff, decide_eq_true_iff, decide_eq_true_iff, decide_eq_true_iff]
      omega
    · exact mk_err T.x_InvalidText (ea_cons (ev_var rfl) ea_nil) fun H5 dd hdd e5 he => kE (by rw [if_pos hb]) H5 dd (ex.trans (e4.trans e5)) he
    · exact s_ret (ev_var rfl) fun H5 e5 => k p (by rw [if_neg (by rw [hb]; decide)]) H5 (ex.trans (e4.trans e5))
def errT (n : Nat) : PyData := .tuple [.str "error", .bool true, .int (n : Int)]
def textD (tx : List Nat) : PyData := .tuple [.str "text", .list ((cs tx).map PyData.int)]
def outR (ds : List Nat) (stop : Nat) : Nat → Nat → List Nat → PyData
  | 0, _, tx => textD tx
  | f + 1, at_, tx => if at_ < stop then (match seqF ds at_ stop with | none => errT at_ | some (p, n) => outR ds stop f (at_ + n) (tx ++ [p])) else textD tx
theorem outR_end {ds : List Nat} {stop at_ : Nat} {tx : List Nat} (h : stop ≤ at_) : ∀ f, outR ds stop f at_ tx = textD tx
  | 0 => rfl
  | f + 1 => by unfold outR; rw [if_neg (by omega)]
theorem outR_shaped {ds : List Nat} {stop : Nat} : ∀ f at_ tx, SeqAt.shaped (outR ds stop f at_ tx) = true := by
  have ht : ∀ tx, SeqAt.shaped (textD tx) = true := fun tx => by
    unfold SeqAt.shaped textD
    have h1 := canLay_ints (cs tx)
    have h2 := depth_ints (cs tx)
    rw [Bool.and_eq_true, decide_eq_true_iff]
    refine ⟨by simp only [PyData.canLay0, PyData.canLayAll0, h1]; decide +kernel, ?_⟩
    simp only [PyData.depth, PyData.depthAll]
    omega
  intro f
  induction f with
  | zero => exact fun at_ tx => ht tx
  | succ f ih =>
    intro at_ tx
    unfold outR
    split
    · split
      · unfold SeqAt.shaped errT
        rw [Bool.and_eq_true, decide_eq_true_iff]
        exact ⟨by simp only [PyData.canLay0, PyData.canLayAll0]; decide +kernel, by simp only [PyData.depth, PyData.depthAll]; omega⟩
      · exact ih _ _
    · exact ht tx
def outT (ds : List Nat) (st stop : Nat) : PyData := outR ds stop (stop - st) st []
theorem q_appX {σ : L2.St} {H : Hp} {l : Addr} {xs : List V} {sp : Sp} {dvs args : List V} {E : L2.St → XK} {ta : TA} {tl : TE} {D : Ends} {tz : TS} (hl : H l = some (.lst xs)) (ha : Ev tl σ H (.ref l)) (h : EvA ta σ H args) (k : ∀ H1, Ex H H1 → sp (args ++ dvs) H1 (fun x H2 => rAppend (.ref l) [x] H2 fun _ H3 => tz D σ H3) (E σ)) : tSeq (tDrop (tBM K "list" rAppend tl (tCons (tCallX sp dvs E ta) tNil))) tz D σ H :=
  ha H (Ex.refl _) _ fun H1 e1 => ⟨.inl ⟨rfl, xs, sq_of (e1 _ _ hl)⟩, h H1 e1 _ fun H2 e2 => k H2 (e1.trans e2)⟩
def sp_rutx (K : PySem.W.Frag) (CI : Addr) : Sp := fun vs H Q E => ∃ (a : Addr) (ds : List Nat) (st stop : Nat), vs = [.ref a, .int (st : Int), .int (stop : Int)] ∧ SqL K H a ((cs ds).map V.int) ∧ ds.length ≤ 90000 ∧ (∀ d ∈ ds, d < 256) ∧ st ≤ stop ∧ stop ≤ ds.length ∧ (∀ n, outT ds st stop = errT n → RdErr E CI "InvalidText" n H) ∧ (∀ tx, outT ds st stop = textD tx → RetL ((cs tx).map V.int) H Q)
theorem ok_read_utf8 (T : TX K mg) : FnOk P w K mg base (L2N.CX P w) 4 T.a_read_utf8 T.d_read_utf8 ["data", "start", "stop"] (sp_rutx K T.C_InvalidText) := by
  refine T.F_read_utf8.okN sc_read_utf8 (fun vs H Q E h => by obtain ⟨a, ds, st, stop, rfl, _⟩ := h; rfl) (fun cdv A outer s0 H vs Q E hr h => ?_)
  obtain ⟨a, ds, st, stop, rfl, hS, hdl, hb, hle, hsl, kE, k⟩ := h
  refine ⟨_, (pss_cons (ps_set (i := 3) sc_read_utf8.nd rfl (Or.inl rfl) (pe_lst pa_nil))
      (pss_cons (ps_set (i := 4) sc_read_utf8.nd rfl (Or.inl rfl) (pv 1))
      (pss_cons (ps_while (passes_of rfl) (pt_cmpR op_lt (pv 4) (pv 2) (nomark _)) (pss_cons (ps_set (i := 5) sc_read_utf8.nd rfl (Or.inl rfl) (pe_call (ok_count_told T) (hr.mono (by decide)) (by rfl) T.g_count_told T.F_count_told.kp T.b_count_told .nil pass0 (pa_cons (pe_ix (r := rIxL K) ix_list (pv 0) (pv 4) (fun _ _ => rfl)) pa_nil)))
        (pss_cons (ps_if (PW.pt (pw_or (pt_cmpR op_eq (pv 5) pe_int (nomark _)) (pw_or1 (pt_cmpR op_gt (pe_op op_add (pv 4) (pv 5)) (pv 2) (nomark _))))) (pss_one (L2N.ps_raise rfl (L2N.takes_of rfl rfl rfl rfl) (pmkN_oex T.x_InvalidText.ox T.x_InvalidText.iC T.ti_MonochordError_init (ok_MonochordError_init T) (hr.mono (by decide)) T.b_MonochordError_init .nil pass0 (by rfl) T.g_InvalidText (pa_cons (pv 4) pa_nil)))) pss_nil)
        (pss_cons (ps_expr (pe_bm PySem.F.plainAttrs_list PySem.F.slot_list_append PySem.F.type_list_append mt_append (pv 3) (pa_cons (pe_callX (ok_read_point T) (hr.mono (by decide)) (by rfl) T.g_read_point T.F_read_point.kp T.b_read_point .nil (fun σ => L2N.passAt (L2N.takes_of rfl rfl rfl rfl) σ) (pa_cons (pv 0) (pa_cons (pv 4) (pa_cons (pv 5) pa_nil)))) pa_nil)))
        (pss_one (ps_aug (i := 4) sc_read_utf8.nd rfl (Or.inl rfl) (pv 5) ip_add))))))
      (pss_one (ps_ret (pv 3)))))), ?_⟩
  refine q_asgL (xs := []) (el_lst ea_nil (by decide)) fun q H1 hq e1 g1 => ?_
  refine q_asg (ev_var rfl) fun H2 e2 => ?_
  refine q_while (fun m σ' H' => ∃ (at_ f : Nat) (tx : List Nat) (z : Option V), m = stop - at_ ∧ at_ ≤ stop ∧ stop - at_ ≤ f ∧ tx.length ≤ at_ ∧ outR ds stop f at_ tx = outT ds st stop ∧ σ' = [some (.ref a), some (.int (st : Int)), some (.int (stop : Int)), some (.ref q), some (.int (at_ : Int)), z] ∧ Ex H H' ∧ H' q = some (.lst ((cs tx).map V.int))) (stop - st) ⟨st, stop - st, [], none, rfl, hle, Nat.le_refl _, Nat.zero_le _, rfl, rfl, e1.trans e2, e2 _ _ g1⟩ ?_
  rintro m σ' H3 ⟨at_, f, tx, z, rfl, hat, hf, htl, hO, rfl, ex, gq⟩
  refine ⟨decide (at_ < stop), et_is (et_test (ev_I0 (ev_var rfl) (ev_var rfl))) (decide_eq_decide.mpr (by omega)), fun hlt H4 e4 => ?_, fun hlt H4 e4 => ?_⟩
  · have hlt := of_decide_eq_true hlt
    obtain ⟨f, rfl⟩ : ∃ g, f = g + 1 := ⟨f - 1, by omega⟩
    unfold outR at hO
    rw [if_pos hlt] at hO
    have hd : ds[at_]? = some (ds.getD at_ 0) := by rw [List.getD_eq_getElem?_getD, List.getElem?_eq_getElem (by omega)]; rfl
    have hd256 := hb _ (List.mem_of_getElem? hd)
    unfold seqF at hO
    generalize ds.getD at_ 0 = d at *
    obtain ⟨n, hn⟩ : ∃ n, cntT d = n := ⟨_, rfl⟩
    have hn4 : n ≤ 4 := by rw [← hn]; exact cntT_le d
    rw [hn] at hO
    refine ⟨fun σ2 H2 => ∃ p : Nat, 1 ≤ n ∧ at_ + n ≤ stop ∧ outR ds stop f (at_ + n) (tx ++ [p]) = outT ds st stop ∧ σ2 = [some (.ref a), some (.int (st : Int)), some (.int (stop : Int)), some (.ref q), some (.int ((at_ + n : Nat) : Int)), some (.int (n : Int))] ∧ Ex H H2 ∧ H2 q = some (.lst ((cs (tx ++ [p])).map V.int)), fun σ2 H2 hN => ?_, ?_⟩
    · obtain ⟨p, hn1, hfit, hO2, rfl, ex2, g2⟩ := hN
      exact ⟨_, by omega, at_ + n, f, tx ++ [p], _, rfl, hfit, by omega, by rw [List.length_append, List.length_singleton]; omega, hO2, rfl, ex2, g2⟩
    refine q_asg (v := .int (n : Int)) (Ev.is (ev_told (ev_ixS (i := 0) (n := (at_ : Int)) (Ev.s (ev_var rfl) (ex_l (ex.trans e4) hS)) (ev_var rfl) (at_of (j := at_) rfl (at_int (cs_at hd))))) (by rw [hn])) fun H5 e5 => ?_
    refine q_when (b := decide (n = 0 ∨ stop < at_ + n)) (et_is (et_or (a := decide (n = 0)) (b := decide (stop < at_ + n)) (et_is (et_test (ev_eq (ev_var rfl) ev_c rfl)) (decide_eq_decide.mpr ⟨fun h => by have := V.int.inj h; omega, fun h => by rw [h]; rfl⟩)) fun _ => et_is (et_test (ev_I0 (ev_I0 (ev_var rfl) (ev_var rfl)) (ev_var rfl))) (decide_eq_decide.mpr (by omega))) (by rw [Bool.decide_or])) (fun hc H6 e6 => ?_) fun hc H6 e6 => ?_
    · rw [if_pos (of_decide_eq_true hc)] at hO
      exact mk_err T.x_InvalidText (ea_cons (ev_var rfl) ea_nil) fun H7 dd hdd e7 he => kE at_ hO.symm H7 dd (ex.trans (e4.trans (e5.trans (e6.trans e7)))) he
    have hc := of_decide_eq_false hc
    rw [if_neg hc] at hO
    have e46 := e4.trans (e5.trans e6)
    refine q_appX (sp := sp_rpx K T.C_InvalidText) (dvs := []) (args := [.ref a, .int (at_ : Int), .int (n : Int)]) (e46 _ _ gq) (ev_var rfl) (ea_cons (ev_var rfl) (ea_cons (ev_var rfl) (ea_cons (ev_var rfl) ea_nil))) fun H7 e7 => ⟨a, ds, at_, d, n, rfl, ex_l (ex.trans (e46.trans e7)) hS, by omega, hd, hd256, hn.symm, by omega, by omega, fun p hp H8 e8 => ?_, fun hp H8 dd e8 he => ?_⟩
    · rw [hp] at hO
      have g8 := (e46.trans (e7.trans e8)) _ _ gq
      refine ⟨q, _, _, rfl, rfl, g8, sz_lt (by rw [List.length_map, cs_len]; omega), ?_⟩
      refine s_aug (a := (at_ : Int)) (b := (n : Int)) rfl (ev_var rfl) fun H9 e9 => ⟨p, by omega, by omega, hO, ?_, (Ex.mut (ex.trans (e46.trans (e7.trans e8))) hq).trans e9, e9 _ _ ?_⟩
      · show [_, _, _, _, some (V.int ((at_ : Int) + (n : Int))), _] = _
        rw [show (at_ : Int) + (n : Int) = ((at_ + n : Nat) : Int) by omega]
      · rw [upd_same, cs_append, List.map_append]
        rfl
    · rw [hp] at hO
      exact kE at_ hO.symm H8 dd (ex.trans (e46.trans (e7.trans e8))) he
  · have hlt := of_decide_eq_false hlt
    rw [outR_end (by omega)] at hO
    exact s_ret (v := .ref q) (ev_var rfl) fun H5 e5 => k tx hO.symm q H5 hq (ex.trans (e4.trans e5)) ((e4.trans e5) _ _ gq)

/-! ### objects: fields, methods, making -/
section
variable {K : PySem.W.Frag} {σ : L2.St} {H : Hp} {to te tv : TE} {a C : Addr} {dx : Addr} {fs : List (Str × V)} {f m : Str} {v : V} {D : Ends} {tz : TS} {sp : Sp} {dvs vs : List V} {E : XK} {t : TA}
theorem ev_fld (c : Cls K C) (hn : NoAttr K C f) (h : Ev to σ H (.ref a)) (hx : H a = some (.ins C dx fs)) (hl : fs.lookup f = some v) : Ev (tFld K to f) σ H v := fun H1 e Q q => h H1 e _ fun H2 e2 => ⟨a, C, dx, fs, v, rfl, (e.trans e2) _ _ hx, c, hn, hl, q H2 e2⟩
theorem q_fld (c : Cls K C) (hn : NoAttr K C f) (hv : Ev tv σ H v) (h : Ev to σ H (.ref a)) (hx : H a = some (.ins C dx fs)) (hl : fs.length < 1000) (k : ∀ H1, Ex H H1 → tz D σ (upd H1 a (.ins C dx (putF f v fs)))) : tSeq (sFld K to tv f) tz D σ H :=
  hv H (Ex.refl H) _ fun H1 e1 => h H1 e1 _ fun H2 e2 => ⟨a, C, dx, fs, rfl, (e1.trans e2) _ _ hx, c, hn, hl, k H2 (e1.trans e2)⟩
theorem s_fld (c : Cls K C) (hn : NoAttr K C f) (hv : Ev tv σ H v) (h : Ev to σ H (.ref a)) (hx : H a = some (.ins C dx fs)) (hl : fs.length < 1000) (k : ∀ H1, Ex H H1 → D.nx σ (upd H1 a (.ins C dx (putF f v fs)))) : sFld K to tv f D σ H :=
  hv H (Ex.refl H) _ fun H1 e1 => h H1 e1 _ fun H2 e2 => ⟨a, C, dx, fs, rfl, (e1.trans e2) _ _ hx, c, hn, hl, k H2 (e1.trans e2)⟩
theorem q_fldL {xs : List V} (c : Cls K C) (hn : NoAttr K C f) (hv : EvL tv σ H xs) (h : ∀ H1, Ex H H1 → Ev to σ H1 (.ref a)) (hx : H a = some (.ins C dx fs)) (hl : fs.length < 1000) (k : ∀ p H1, H p = none → Ex H H1 → H1 p = some (.lst xs) → tz D σ (upd H1 a (.ins C dx (putF f (.ref p) fs)))) : tSeq (sFld K to tv f) tz D σ H :=
  hv H (Ex.refl H) _ fun p H1 hp e1 g1 => h H1 e1 H1 (Ex.refl H1) _ fun H2 e2 => ⟨a, C, dx, fs, rfl, (e1.trans e2) _ _ hx, c, hn, hl, k p H2 hp (e1.trans e2) (e2 _ _ g1)⟩
/-- o.m(..), whatever m promises -/
theorem mth (h : Ev to σ H (.ref a)) (hx : H a = some (.ins C dx fs)) (hm : fs.lookup m = none) (ha : EvA t σ H vs) {Q : VK} (k : ∀ H1, Ex H H1 → sp (.ref a :: (vs ++ dvs)) H1 Q E) : tMeth C m sp dvs E to t σ H Q :=
  h H (Ex.refl H) _ fun H1 e1 => ⟨a, dx, fs, rfl, e1 _ _ hx, hm, ha H1 e1 _ fun H2 e2 => k H2 (e1.trans e2)⟩
theorem q_dropM (h : Ev to σ H (.ref a)) (hx : H a = some (.ins C dx fs)) (hm : fs.lookup m = none) (ha : EvA t σ H vs) (k : ∀ H1, Ex H H1 → sp (.ref a :: (vs ++ dvs)) H1 (fun _ H2 => tz D σ H2) E) : tSeq (tDrop (tMeth C m sp dvs E to t)) tz D σ H := mth h hx hm ha k
theorem s_dropM (h : Ev to σ H (.ref a)) (hx : H a = some (.ins C dx fs)) (hm : fs.lookup m = none) (ha : EvA t σ H vs) (k : ∀ H1, Ex H H1 → sp (.ref a :: (vs ++ dvs)) H1 (fun _ H2 => D.nx σ H2) E) : tDrop (tMeth C m sp dvs E to t) D σ H := mth h hx hm ha k
theorem q_asgM {i : Nat} (h : Ev to σ H (.ref a)) (hx : H a = some (.ins C dx fs)) (hm : fs.lookup m = none) (ha : EvA t σ H vs) (k : ∀ H1, Ex H H1 → sp (.ref a :: (vs ++ dvs)) H1 (fun x H2 => tz D (σ.set i (some x)) H2) E) : tSeq (tAsg (tMeth C m sp dvs E to t) (gName i)) tz D σ H := mth h hx hm ha k
theorem s_retM (h : Ev to σ H (.ref a)) (hx : H a = some (.ins C dx fs)) (hm : fs.lookup m = none) (ha : EvA t σ H vs) (k : ∀ H1, Ex H H1 → sp (.ref a :: (vs ++ dvs)) H1 D.rt E) : tRet (tMeth C m sp dvs E to t) D σ H := mth h hx hm ha k
/-- a method that changes nothing and gives a value -/
theorem ev_mth (h : Ev to σ H (.ref a)) (hx : H a = some (.ins C dx fs)) (hm : fs.lookup m = none) (ha : EvA t σ H vs) (k : SpV sp (.ref a :: (vs ++ dvs)) H v) : Ev (tMeth C m sp dvs E to t) σ H v := fun H1 e Q q =>
  h H1 e _ fun H2 e2 => ⟨a, dx, fs, rfl, (e.trans e2) _ _ hx, hm, ha H2 (e.trans e2) _ fun H3 e3 => k H3 ((e.trans e2).trans e3) Q (fun H4 e4 => q H4 ((e2.trans e3).trans e4)) E⟩
end
theorem fresh_ne {H : Hp} {p q : Addr} {o : HO} (hp : H p = none) (hq : H q = some o) : q ≠ p := ne_of_none hq hp
theorem bitNot_eq (x : Int) : Builtin.bitNot x = -x - 1 := rfl
theorem bitAnd_maskZ (x : Int) (k : Nat) : Builtin.bitAnd x (2 ^ k - 1) = x % 2 ^ k := by
  by_cases h : 0 ≤ x
  · exact _root_.Bits.bitAnd_mask k h
  · have hp : (1 : Int) ≤ 2 ^ k := by
      have : 0 < 2 ^ k := Nat.two_pow_pos k
      have h2 : ((2 : Int) ^ k) = ((2 ^ k : Nat) : Int) := by rw [Int.natCast_pow]; rfl
      omega
    rw [PyProof.Rows.bitAnd_np h (by omega), Nat.and_comm]
    have h2 : ((2 : Int) ^ k) = ((2 ^ k : Nat) : Int) := by rw [Int.natCast_pow]; rfl
    have h3 : ((2 : Int) ^ k - 1).toNat = 2 ^ k - 1 := by omega
    rw [h3, Nat.and_two_pow_sub_one_eq_mod, bitNot_eq]
    have h4 : ((-x - 1).toNat : Int) = -x - 1 := by omega
    rw [h2, Int.natCast_emod, h4]
    generalize 2 ^ k = m at *
    have hm : (0 : Int) < (m : Int) := by omega
    have e1 := Int.emod_add_mul_ediv x m
    have e2 := Int.emod_add_mul_ediv (-x - 1) m
    have a1 := Int.emod_nonneg x (by omega : (m : Int) ≠ 0)
    have a2 := Int.emod_lt_of_pos x hm
    have b1 := Int.emod_nonneg (-x - 1) (by omega : (m : Int) ≠ 0)
    have b2 := Int.emod_lt_of_pos (-x - 1) hm
    generalize x % (m : Int) = r at *
    generalize (-x - 1) % (m : Int) = s at *
    generalize x / (m : Int) = p at *
    generalize (-x - 1) / (m : Int) = q at *
    -- r + s + 1 is a multiple of m between 1 and 2m - 1
    have e3 : r + s + 1 = m * (-(p + q)) := by
      rw [Int.mul_neg, Int.mul_add]
      omega
    have h5 : -(p + q) = 1 := by
      have c1 : 0 < (m : Int) * (-(p + q)) := by omega
      have c2 : (m : Int) * (-(p + q)) < m * 2 := by omega
      have c3 := Int.pos_of_mul_pos_right (a := (m : Int)) (b := -(p + q)) (by exact c1) hm
      have c4 : -(p + q) < 2 := Int.lt_of_mul_lt_mul_left c2 (by omega)
      omega
    rw [h5, Int.mul_one] at e3
    omega
theorem q_fldaugI {K : PySem.W.Frag} {σ : L2.St} {H : Hp} {to tv : TE} {a C dx : Addr} {fs : List (Str × V)} {f : Str} {i j : Int} {D : Ends} {tz : TS} (c : Cls K C) (hn : NoAttr K C f) (h : Ev to σ H (.ref a)) (hx : H a = some (.ins C dx fs)) (hl : fs.lookup f = some (.int i)) (hv : Ev tv σ H (.int j)) (hz : fs.length < 1000)
    (k : ∀ H1, Ex H H1 → tz D σ (upd H1 a (.ins C dx (putF f (.int (i + j)) fs)))) : tSeq (sFldAug K to tv rAdd f) tz D σ H :=
  h H (Ex.refl H) _ fun H1 e1 => ⟨a, C, dx, fs, .int i, rfl, e1 _ _ hx, c, hn, hl, hv H1 e1 _ fun H2 e2 => ⟨i, j, rfl, rfl, dx, fs, (e1.trans e2) _ _ hx, hz, k H2 (e1.trans e2)⟩⟩
/-- [e for j in range(n)] whose element changes objects -/
theorem tlc_rngM {ta : TA} {te : TE} {vs : List Nat} {n : Int} {j : Nat} {σ : L2.St} {H : Hp} {Q : VK} (h : EvA ta σ H [.int n]) (hn : -100000 ≤ n ∧ n ≤ 100000)
    (k : ∀ H1, Ex H H1 → ∀ Dl, H1 Dl = none → ∃ Pv : Nat → Hp → Prop, Pv 0 (upd H1 Dl (.lst [])) ∧ (∀ (i : Nat) H', i < n.toNat → Pv i H' → wipe ((wipe σ vs).set j (some (.int (i : Int)))) vs = wipe σ vs ∧ te ((wipe σ vs).set j (some (.int (i : Int)))) H' fun y H4 => ∃ acc, H4 Dl = some (.lst acc) ∧ acc.length < sizeLine ∧ Pv (i + 1) (upd H4 Dl (.lst (acc ++ [y])))) ∧ (∀ H', Pv n.toNat H' → Q (.ref Dl) H')) :
    tLc (iRng1 ta) (gName j) tYes te vs σ H Q := h H (Ex.refl H) _ fun H1 e1 => ⟨n, rfl, by omega, by omega, fun Dl hD => by
  obtain ⟨Pv, h0, hs, hd⟩ := k H1 e1 Dl hD
  refine lc_range (lo := 0) (n := n.toNat) Pv h0 (fun i H' hi p => ?_) hd
  rw [Int.zero_add]
  exact hs i H' hi p⟩

/-! ### objects that are made once -/
def FrO (a : Addr) (H H' : Hp) : Prop := ∀ b o, b ≠ a → H b = some o → H' b = some o
theorem FrO.ex {a : Addr} {H H' : Hp} (e : Ex H H') : FrO a H H' := fun b o _ h => e b o h
theorem FrO.trans {a : Addr} {H H1 H2 : Hp} (x : FrO a H H1) (y : FrO a H1 H2) : FrO a H H2 := fun b o hb h => y b o hb (x b o hb h)
theorem FrO.upd {a : Addr} {H H' : Hp} {o : HO} (f : FrO a H H') : FrO a H (upd H' a o) := fun b u hb h => by rw [upd_ne hb]; exact f b u hb h
def EvN (te : TE) (σ : L2.St) (H : Hp) (R : Addr → Hp → Prop) : Prop := ∀ H1, Ex H H1 → ∀ Q : VK, (∀ p H2, H1 p = none → Ex H1 H2 → R p H2 → Q (.ref p) H2) → te σ H1 Q
section
variable {K : PySem.W.Frag} {σ : L2.St} {H : Hp} {te ta tb : TE} {C : Addr} {sp : Sp} {dvs vs zs : List V} {E : XK} {t tk : TA} {R : Addr → Hp → Prop} {D : Ends} {tz : TS} {n m i : Nat} {gV : List V → List V → List V}
theorem en_make (h : EvA t σ H vs) (k : ∀ a dx H1 (Q : VK) (E : XK), Ex H H1 → H1 a = some (.ins C dx []) → (∀ H', FrO a H1 H' → R a H' → Q .non H') → sp (.ref a :: (vs ++ dvs)) H1 Q E) : EvN (tMake C sp dvs E t) σ H R := fun H1 e Q q =>
  h H1 e _ fun H2 e2 => fun x dx hx hdx hne => k x dx _ _ _ ((e.trans e2).trans (Ex.mut (Ex.new hdx) hx)) upd_same fun H' hF hR => ⟨rfl, q x H' (fresh_back e2 hx) (fun b o hb => hF b o (fresh_ne hx (e2 b o hb)) ((Ex.mut (Ex.new hdx) hx) b o (e2 b o hb))) hR⟩
theorem en_makeK (h : EvA t σ H vs) (hz : EvA tk σ H zs) (l1 : vs.length = n) (l2 : zs.length = m) (k : ∀ a dx H1 (Q : VK) (E : XK), Ex H H1 → H1 a = some (.ins C dx []) → (∀ H', FrO a H1 H' → R a H' → Q .non H') → sp (gV (.ref a :: vs) zs) H1 Q E) : EvN (tMakeK C n m sp gV E t tk) σ H R := fun H1 e Q q =>
  h H1 e _ fun H2 e2 => hz H2 (e.trans e2) _ fun H3 e3 => ⟨l1, l2, fun x dx hx hdx hne => k x dx _ _ _ (((e.trans e2).trans e3).trans (Ex.mut (Ex.new hdx) hx)) upd_same fun H' hF hR => ⟨rfl, q x H' (fresh_back (e2.trans e3) hx) (fun b o hb => hF b o (fresh_ne hx ((e2.trans e3) b o hb)) ((Ex.mut (Ex.new hdx) hx) b o ((e2.trans e3) b o hb))) hR⟩⟩
theorem en_makeF (h : EvA t σ H vs) (k : ∀ a dx H1 (Q : VK) (E : XK), Ex H H1 → H a = none → H1 a = some (.ins C dx []) → (∀ H', FrO a H1 H' → R a H' → Q .non H') → sp (.ref a :: (vs ++ dvs)) H1 Q E) : EvN (tMake C sp dvs E t) σ H R := fun H1 e Q q =>
  h H1 e _ fun H2 e2 => fun x dx hx hdx hne => k x dx _ _ _ ((e.trans e2).trans (Ex.mut (Ex.new hdx) hx)) (fresh_back (e.trans e2) hx) upd_same fun H' hF hR => ⟨rfl, q x H' (fresh_back e2 hx) (fun b o hb => hF b o (fresh_ne hx (e2 b o hb)) ((Ex.mut (Ex.new hdx) hx) b o (e2 b o hb))) hR⟩
theorem en_makeKF (h : EvA t σ H vs) (hz : EvA tk σ H zs) (l1 : vs.length = n) (l2 : zs.length = m) (k : ∀ a dx H1 (Q : VK) (E : XK), Ex H H1 → H a = none → H1 a = some (.ins C dx []) → (∀ H', FrO a H1 H' → R a H' → Q .non H') → sp (gV (.ref a :: vs) zs) H1 Q E) : EvN (tMakeK C n m sp gV E t tk) σ H R := fun H1 e Q q =>
  h H1 e _ fun H2 e2 => hz H2 (e.trans e2) _ fun H3 e3 => ⟨l1, l2, fun x dx hx hdx hne => k x dx _ _ _ (((e.trans e2).trans e3).trans (Ex.mut (Ex.new hdx) hx)) (fresh_back ((e.trans e2).trans e3) hx) upd_same fun H' hF hR => ⟨rfl, q x H' (fresh_back (e2.trans e3) hx) (fun b o hb => hF b o (fresh_ne hx ((e2.trans e3) b o hb)) ((Ex.mut (Ex.new hdx) hx) b o ((e2.trans e3) b o hb))) hR⟩⟩
/-- what stood before the object was made stands -/
theorem FrO.after {a : Addr} {H0 G H' : Hp} (f : FrO a G H') (e : Ex H0 G) (hn : H0 a = none) : Ex H0 H' := fun b o hb => f b o (by rintro rfl; rw [hn] at hb; cases hb) (e b o hb)
theorem q_asgN (h : EvN te σ H R) (k : ∀ p H1, H p = none → Ex H H1 → R p H1 → tz D (σ.set i (some (.ref p))) H1) : tSeq (tAsg te (gName i)) tz D σ H := h H (Ex.refl H) _ k
theorem s_asgN (h : EvN te σ H R) (k : ∀ p H1, H p = none → Ex H H1 → R p H1 → D.nx (σ.set i (some (.ref p))) H1) : tAsg te (gName i) D σ H := h H (Ex.refl H) _ k
theorem s_retN (h : EvN te σ H R) (k : ∀ p H1, H p = none → Ex H H1 → R p H1 → D.rt (.ref p) H1) : tRet te D σ H := h H (Ex.refl H) _ k
theorem el_if {c : TT} {b : Bool} {xs : List V} (h : EvT c σ H b) (h1 : b = true → EvL ta σ H xs) (h2 : b = false → EvL tb σ H xs) : EvL (tIf c ta tb) σ H xs := fun H1 e Q q => h H1 e _ fun H2 e2 => by
  cases b with
  | true =>
    rw [if_pos rfl]
    exact h1 rfl H2 (e.trans e2) Q fun p H3 hp e3 g => q p H3 (fresh_back e2 hp) (e2.trans e3) g
  | false =>
    rw [if_neg (by decide)]
    exact h2 rfl H2 (e.trans e2) Q fun p H3 hp e3 g => q p H3 (fresh_back e2 hp) (e2.trans e3) g
theorem s_fldL {a dx : Addr} {fs : List (Str × V)} {f : Str} {to tv : TE} {xs : List V} (c : Cls K C) (hn : NoAttr K C f) (hv : EvL tv σ H xs) (h : ∀ H1, Ex H H1 → Ev to σ H1 (.ref a)) (hx : H a = some (.ins C dx fs)) (hl : fs.length < 1000) (k : ∀ p H1, H p = none → Ex H H1 → H1 p = some (.lst xs) → D.nx σ (upd H1 a (.ins C dx (putF f (.ref p) fs)))) : sFld K to tv f D σ H :=
  hv H (Ex.refl H) _ fun p H1 hp e1 g1 => h H1 e1 H1 (Ex.refl H1) _ fun H2 e2 => ⟨a, C, dx, fs, rfl, (e1.trans e2) _ _ hx, c, hn, hl, k p H2 hp (e1.trans e2) (e2 _ _ g1)⟩
end

/-! ### arguments some of which are new objects -/
def EvAP (t : TA) (σ : L2.St) (H : Hp) (R : List V → Hp → Prop) : Prop := ∀ H1, Ex H H1 → ∀ Q : List V → Hp → Prop, (∀ vs H2, Ex H1 H2 → R vs H2 → Q vs H2) → t σ H1 Q
section
variable {K : PySem.W.Frag} {σ : L2.St} {H : Hp} {te : TE} {tr t : TA} {x : V} {xs : List V} {R : List V → Hp → Prop} {C : Addr} {sp : Sp} {dvs : List V} {E : XK} {S : Addr → Hp → Prop} {D : Ends} {tz : TS} {i : Nat}
theorem ap_nil : EvAP tNil σ H fun vs _ => vs = [] := fun H1 _ _ q => q [] H1 (Ex.refl H1) rfl
theorem ap_ev (h : Ev te σ H x) (hr : EvAP tr σ H R) : EvAP (tCons te tr) σ H fun vs G => ∃ r, vs = x :: r ∧ R r G := fun H1 e Q q =>
  h H1 e _ fun H2 e2 => hr H2 (e.trans e2) _ fun vs H3 e3 hR => q (x :: vs) H3 (e2.trans e3) ⟨vs, rfl, hR⟩
theorem ap_l (h : EvL te σ H xs) (hr : EvAP tr σ H R) : EvAP (tCons te tr) σ H fun vs G => ∃ p r, vs = .ref p :: r ∧ H p = none ∧ G p = some (.lst xs) ∧ R r G := fun H1 e Q q =>
  h H1 e _ fun p H2 hp e2 g => hr H2 (e.trans e2) _ fun vs H3 e3 hR => q (.ref p :: vs) H3 (e2.trans e3) ⟨p, vs, rfl, fresh_back e hp, e3 _ _ g, hR⟩
theorem ap_u (h : EvU te σ H xs) (hr : EvAP tr σ H R) : EvAP (tCons te tr) σ H fun vs G => ∃ p r, vs = .ref p :: r ∧ H p = none ∧ G p = some (.tup xs) ∧ R r G := fun H1 e Q q =>
  h H1 e _ fun p H2 hp e2 g => hr H2 (e.trans e2) _ fun vs H3 e3 hR => q (.ref p :: vs) H3 (e2.trans e3) ⟨p, vs, rfl, fresh_back e hp, e3 _ _ g, hR⟩
theorem en_makeAP (h : EvAP t σ H R) (k : ∀ vs a dx H1 (Q : VK) (E : XK), Ex H H1 → (∃ G, Ex G H1 ∧ R vs G) → H1 a = some (.ins C dx []) → (∀ H', FrO a H1 H' → S a H' → Q .non H') → sp (.ref a :: (vs ++ dvs)) H1 Q E) : EvN (tMake C sp dvs E t) σ H S := fun H1 e Q q =>
  h H1 e _ fun vs H2 e2 hR => fun x dx hx hdx hne => k vs x dx _ _ _ ((e.trans e2).trans (Ex.mut (Ex.new hdx) hx)) ⟨H2, Ex.mut (Ex.new hdx) hx, hR⟩ upd_same fun H' hF hS => ⟨rfl, q x H' (fresh_back e2 hx) (fun b o hb => hF b o (fresh_ne hx (e2 b o hb)) ((Ex.mut (Ex.new hdx) hx) b o (e2 b o hb))) hS⟩
theorem q_asgAP (h : EvAP t σ H R) (k : ∀ vs H1, Ex H H1 → R vs H1 → sp (vs ++ dvs) H1 (fun x H2 => tz D (σ.set i (some x)) H2) E) : tSeq (tAsg (tCall sp dvs E t) (gName i)) tz D σ H := h H (Ex.refl H) _ fun vs H1 e hR => k vs H1 e hR
theorem s_retAP (h : EvAP t σ H R) (k : ∀ vs H1, Ex H H1 → R vs H1 → sp (vs ++ dvs) H1 D.rt E) : tRet (tCall sp dvs E t) D σ H := h H (Ex.refl H) _ fun vs H1 e hR => k vs H1 e hR
end

/-! ### values of which something is told -/
def EvX (te : TE) (σ : L2.St) (H : Hp) (S : V → Hp → Prop) : Prop := ∀ H1, Ex H H1 → ∀ Q : VK, (∀ v H2, Ex H1 H2 → S v H2 → Q v H2) → te σ H1 Q
def Up (S : V → Hp → Prop) : Prop := ∀ v H H', Ex H H' → S v H → S v H'
section
variable {K : PySem.W.Frag} {σ : L2.St} {H : Hp} {te ta tb : TE} {tr t : TA} {R : List V → Hp → Prop} {C : Addr} {sp : Sp} {dvs : List V} {E : XK} {S S' S2 : V → Hp → Prop} {D : Ends} {tz : TS} {i : Nat}
theorem Ev.x {v : V} (h : Ev te σ H v) (hS : ∀ H1, Ex H H1 → S v H1) : EvX te σ H S := fun H1 e Q q => h H1 e _ fun H2 e2 => q v H2 e2 (hS H2 (e.trans e2))
theorem EvN.x {R' : Addr → Hp → Prop} (h : EvN te σ H R') (hS : ∀ p H1, Ex H H1 → R' p H1 → S (.ref p) H1) : EvX te σ H S := fun H1 e Q q => h H1 e _ fun p H2 _ e2 hR => q (.ref p) H2 e2 (hS p H2 (e.trans e2) hR)
theorem ex_call1 (h : EvX te σ H S) (k : ∀ v H1 (Q : VK) (E : XK), Ex H H1 → S v H1 → (∀ v' H2, Ex H1 H2 → S' v' H2 → Q v' H2) → sp ([v] ++ dvs) H1 Q E) : EvX (tCall sp dvs E (tCons te tNil)) σ H S' := fun H1 e Q q =>
  h H1 e _ fun v H2 e2 hS => k v H2 _ _ (e.trans e2) hS fun v' H3 e3 hS' => q v' H3 (e2.trans e3) hS'
theorem ex_call2 (h : EvX ta σ H S) (hu : Up S) (h2 : EvX tb σ H S2) (k : ∀ v w H1 (Q : VK) (E : XK), Ex H H1 → S v H1 → S2 w H1 → (∀ v' H2, Ex H1 H2 → S' v' H2 → Q v' H2) → sp ([v, w] ++ dvs) H1 Q E) : EvX (tCall sp dvs E (tCons ta (tCons tb tNil))) σ H S' := fun H1 e Q q =>
  h H1 e _ fun v H2 e2 hS => h2 H2 (e.trans e2) _ fun w H3 e3 hS2 => k v w H3 _ _ ((e.trans e2).trans e3) (hu _ _ _ e3 hS) hS2 fun v' H4 e4 hS' => q v' H4 ((e2.trans e3).trans e4) hS'
theorem EvX.val {v : V} (h : EvX te σ H fun x _ => x = v) : Ev te σ H v := fun H1 e Q q => h H1 e _ fun x H2 e2 hx => by rw [hx]; exact q H2 e2
theorem q_asgX (h : EvX te σ H S) (k : ∀ v H1, Ex H H1 → S v H1 → tz D (σ.set i (some v)) H1) : tSeq (tAsg te (gName i)) tz D σ H := h H (Ex.refl H) _ fun v H1 e hS => k v H1 e hS
theorem ap_x (h : EvX te σ H S) (hu : Up S) (hr : EvAP tr σ H R) : EvAP (tCons te tr) σ H fun vs G => ∃ v r, vs = v :: r ∧ S v G ∧ R r G := fun H1 e Q q =>
  h H1 e _ fun v H2 e2 hS => hr H2 (e.trans e2) _ fun vs H3 e3 hR => q (v :: vs) H3 (e2.trans e3) ⟨v, vs, rfl, hu _ _ _ e3 hS, hR⟩
theorem s_retAPL (h : EvAP t σ H R) (hl : ∀ vs G, R vs G → vs.length ≤ 100000) (k : ∀ p vs H1 H2, H p = none → Ex H H1 → R vs H1 → Ex H1 H2 → H2 p = some (.lst vs) → D.rt (.ref p) H2) : tRet (tLst t) D σ H := h H (Ex.refl H) _ fun vs H1 e hR => ⟨sz_of (hl vs H1 hR), fun p hp => k p vs H1 _ (fresh_back e hp) e hR (Ex.new hp) upd_same⟩
theorem ev_eqX {K : PySem.W.Frag} {b : Bool} (ha : EvX ta σ H S) (hu : Up S) (hb : EvX tb σ H S2) (h : ∀ x y G, Ex H G → S x G → S2 y G → ∃ a dx fs t, x = .ref a ∧ G a = some (.ins C dx fs) ∧ TyX K G y t ∧ PySem.W.notFirst K C t = true ∧ SpV sp [.ref a, y] G (.bl b)) : Ev (tOp (rEqO C sp E K) ta tb) σ H (.bl b) := fun H1 e Q q =>
  ha H1 e _ fun x H2 e2 hS => hb H2 (e.trans e2) _ fun y H3 e3 hS2 => by
    obtain ⟨a, dx, fs, t, rfl, h1, h2, h3, h4⟩ := h x y H3 ((e.trans e2).trans e3) (hu _ _ _ e3 hS) hS2
    exact ⟨a, dx, fs, t, rfl, h1, h2, h3, h4 H3 (Ex.refl _) _ (fun H4 e4 => ⟨⟨b, rfl⟩, q H4 ((e2.trans e3).trans e4)⟩) E⟩
theorem ev_eqDv {d d' : PyData} (h1 : EvD K ta σ H d) (h2 : EvD K tb σ H d') (hs : SeqAt.shaped d = true) (hs' : SeqAt.shaped d' = true) : Ev (tOp (rEqD K) ta tb) σ H (.bl (PyData.eqv d d')) := fun H1 e Q q => h1 H1 e _ fun v H2 e2 hv => h2 H2 (e.trans e2) _ fun u H3 e3 hu =>
  ⟨d, d', dp_ex e3 d v hv, hu, hs, hs', q H3 (e2.trans e3)⟩
theorem ev_neDv {d d' : PyData} (h1 : EvD K ta σ H d) (h2 : EvD K tb σ H d') (hs : SeqAt.shaped d = true) (hs' : SeqAt.shaped d' = true) : Ev (tOp (rNeD K) ta tb) σ H (.bl (!PyData.eqv d d')) := fun H1 e Q q => h1 H1 e _ fun v H2 e2 hv => h2 H2 (e.trans e2) _ fun u H3 e3 hu =>
  ⟨d, d', dp_ex e3 d v hv, hu, hs, hs', q H3 (e2.trans e3)⟩
end

/-! ### entries: names and values -/
abbrev En := List Int × List Int
def upI (p : Int) : Int := if 97 ≤ p ∧ p ≤ 122 then p - 32 else p
def upS (l : List Int) : List Int := l.map upI
def mt (n m : List Int) : Bool := decide (upS n = upS m)
theorem mt_of {n m x : List Int} (h : upS m = upS x) : mt n m = mt n x := by unfold mt; rw [h]
def hitE (nm : List Int) (es : List En) : List En := es.filter fun e => mt e.1 nm
def missE (nm : List Int) (es : List En) : List En := es.filter fun e => !mt e.1 nm
def valsO (es : List En) (nm : List Int) : List (List Int) := (hitE nm es).map (·.2)
def atO (nm : List Int) : List En → Option Nat
  | [] => none
  | e :: r => if mt e.1 nm = true then some 0 else (atO nm r).map (· + 1)
def insE (nm : List Int) (vs : List (List Int)) : List En := vs.map fun v => (nm, v)
def putE (k : List En) (a : Nat) (ins : List En) : List En := k.take a ++ ins ++ k.drop a
def withV (es : List En) (nm : List Int) (vs : List (List Int)) : List En := putE (missE nm es) ((atO nm es).getD (missE nm es).length) (insE nm vs)
theorem atO_snoc (nm : List Int) (e : En) : ∀ es : List En, atO nm (es ++ [e]) = match atO nm es with | some k => some k | none => if mt e.1 nm = true then some (missE nm es).length else none
  | [] => by
    show (if mt e.1 nm = true then some 0 else none) = _
    rfl
  | x :: r => by
    rw [List.cons_append]
    show (if mt x.1 nm = true then some 0 else (atO nm (r ++ [e])).map (· + 1)) = match (if mt x.1 nm = true then some 0 else (atO nm r).map (· + 1)) with | some k => some k | none => if mt e.1 nm = true then some (missE nm (x :: r)).length else none
    by_cases h : mt x.1 nm = true
    · rw [if_pos h, if_pos h]
    · rw [if_neg h, if_neg h, atO_snoc nm e r]
      cases ha : atO nm r with
      | some k => rfl
      | none =>
        show (if mt e.1 nm = true then some (missE nm r).length else none).map (· + 1) = if mt e.1 nm = true then some (missE nm (x :: r)).length else none
        have hl : (missE nm (x :: r)).length = (missE nm r).length + 1 := by
          unfold missE
          rw [List.filter_cons_of_pos (by simp [h])]
          rfl
        rw [hl]
        split <;> rfl
theorem atO_le {nm : List Int} : ∀ {es : List En} {k : Nat}, atO nm es = some k → k ≤ (missE nm es).length
  | [], k, h => by cases h
  | x :: r, k, h => by
    by_cases hx : mt x.1 nm = true
    · have : (if mt x.1 nm = true then some 0 else (atO nm r).map (· + 1)) = some k := h
      rw [if_pos hx] at this
      cases this
      exact Nat.zero_le _
    · have : (if mt x.1 nm = true then some 0 else (atO nm r).map (· + 1)) = some k := h
      rw [if_neg hx] at this
      obtain ⟨j, hj, rfl⟩ := Option.map_eq_some_iff.mp this
      have := atO_le hj
      have hl : (missE nm (x :: r)).length = (missE nm r).length + 1 := by
        unfold missE
        rw [List.filter_cons_of_pos (by simp [hx])]
        rfl
      omega
theorem missE_snoc (nm : List Int) (es : List En) (e : En) : missE nm (es ++ [e]) = if mt e.1 nm = true then missE nm es else missE nm es ++ [e] := by
  unfold missE
  rw [List.filter_append]
  by_cases h : mt e.1 nm = true
  · rw [if_pos h, List.filter_cons_of_neg (by simp [h]), List.filter_nil, List.append_nil]
  · rw [if_neg h, List.filter_cons_of_pos (by simp [h]), List.filter_nil]
theorem missE_none {nm : List Int} {es : List En} (h : ∀ e ∈ es, mt e.1 nm = true) : missE nm es = [] := List.filter_eq_nil_iff.mpr fun e he => by simp [h e he]
theorem missE_self (nm : List Int) (es : List En) : missE nm (missE nm es) = missE nm es := by
  unfold missE
  rw [List.filter_filter]
  simp
theorem insE_mt {nm x : List Int} {vs : List (List Int)} (h : upS x = upS nm) : ∀ e ∈ insE nm vs, mt e.1 x = true := fun e he => by
  obtain ⟨v, _, rfl⟩ := List.mem_map.mp he
  unfold mt
  rw [h, decide_eq_true rfl]
theorem missE_put (es : List En) (nm : List Int) (vs : List (List Int)) : missE nm (withV es nm vs) = missE nm es := by
  unfold withV putE
  generalize (atO nm es).getD (missE nm es).length = a
  have h1 : missE nm (insE nm vs) = [] := missE_none (insE_mt rfl)
  have h2 := missE_self nm es
  generalize missE nm es = k at *
  unfold missE at *
  rw [List.filter_append, List.filter_append, h1, List.append_nil, ← List.filter_append, List.take_append_drop, h2]
theorem hitE_miss {nm x : List Int} (h : upS x = upS nm) (es : List En) : hitE x (missE nm es) = [] := by
  unfold hitE missE
  rw [List.filter_filter]
  refine List.filter_eq_nil_iff.mpr fun e _ => ?_
  rw [mt_of h]
  simp
theorem valsO_with {nm x : List Int} (h : upS x = upS nm) (es : List En) (vs : List (List Int)) : valsO (withV es nm vs) x = vs := by
  unfold valsO withV putE
  generalize (atO nm es).getD (missE nm es).length = a
  have h1 := hitE_miss h es
  have h2 : hitE x (insE nm vs) = insE nm vs := List.filter_eq_self.mpr (insE_mt h)
  have ht : hitE x ((missE nm es).take a) = [] := List.filter_eq_nil_iff.mpr fun e he => List.filter_eq_nil_iff.mp h1 e (List.mem_of_mem_take he)
  have hd : hitE x ((missE nm es).drop a) = [] := List.filter_eq_nil_iff.mpr fun e he => List.filter_eq_nil_iff.mp h1 e (List.mem_of_mem_drop he)
  unfold hitE at *
  rw [List.filter_append, List.filter_append, ht, hd, h2, List.append_nil, List.nil_append]
  unfold insE
  rw [List.map_map]
  exact List.map_id _
theorem valsO_of {es : List En} {nm x : List Int} (h : upS x = upS nm) : valsO es x = valsO es nm := by
  unfold valsO hitE
  congr 1
  exact List.filter_congr fun e _ => mt_of h
/-! ### where entries stand -/
def EnsN (N : Addr → Prop) (H : Hp) (as : List Addr) (es : List En) : Prop := as.length = es.length ∧ ∀ (j : Nat) (a : Addr) (e : En), as[j]? = some a → es[j]? = some e → N a ∧ ∃ pn pv, H a = some (.tup [.ref pn, .ref pv]) ∧ N pn ∧ H pn = some (.lst (e.1.map V.int)) ∧ N pv ∧ H pv = some (.lst (e.2.map V.int))
def TxN (N : Addr → Prop) (H : Hp) (as : List Addr) (rs : List (List Int)) : Prop := as.length = rs.length ∧ ∀ (j : Nat) (a : Addr) (r : List Int), as[j]? = some a → rs[j]? = some r → N a ∧ H a = some (.lst (r.map V.int))
def Kp (N : Addr → Prop) (H H' : Hp) : Prop := ∀ b o, N b → H b = some o → H' b = some o
theorem Kp.ex {N : Addr → Prop} {H H' : Hp} (e : Ex H H') : Kp N H H' := fun b o _ h => e b o h
theorem Kp.trans {N : Addr → Prop} {H H1 H2 : Hp} (h : Kp N H H1) (g : Kp N H1 H2) : Kp N H H2 := fun b o n e => g b o n (h b o n e)
theorem Kp.mut {N : Addr → Prop} {H H1 : Hp} {p : Addr} {o : HO} (h : Kp N H H1) (hp : N p → H p = none) : Kp N H (upd H1 p o) := fun b u n e => by
  have : b ≠ p := by rintro rfl; rw [hp n] at e; cases e
  rw [upd_ne this]
  exact h b u n e
theorem Kp.fr {N : Addr → Prop} {s : Addr} {H H' : Hp} (f : Fr s H H') (hs : ¬ N s) : Kp N H H' := fun b o n e => f.1 b o (by rintro rfl; exact hs n) e
theorem EnsN.kp {N : Addr → Prop} {H H' : Hp} {as : List Addr} {es : List En} (h : EnsN N H as es) (k : Kp N H H') : EnsN N H' as es := ⟨h.1, fun j a e h1 h2 => by
  obtain ⟨n0, pn, pv, g1, n1, g2, n2, g3⟩ := h.2 j a e h1 h2
  exact ⟨n0, pn, pv, k _ _ n0 g1, n1, k _ _ n1 g2, n2, k _ _ n2 g3⟩⟩
theorem EnsN.ex {N : Addr → Prop} {H H' : Hp} {as : List Addr} {es : List En} (h : EnsN N H as es) (e : Ex H H') : EnsN N H' as es := h.kp (Kp.ex e)
theorem EnsN.imp {N M : Addr → Prop} {H : Hp} {as : List Addr} {es : List En} (h : EnsN N H as es) (i : ∀ b, H b ≠ none → N b → M b) : EnsN M H as es := ⟨h.1, fun j a e h1 h2 => by
  obtain ⟨n0, pn, pv, g1, n1, g2, n2, g3⟩ := h.2 j a e h1 h2
  exact ⟨i _ (by rw [g1]; exact fun z => nomatch z) n0, pn, pv, g1, i _ (by rw [g2]; exact fun z => nomatch z) n1, g2, i _ (by rw [g3]; exact fun z => nomatch z) n2, g3⟩⟩
theorem TxN.kp {N : Addr → Prop} {H H' : Hp} {as : List Addr} {rs : List (List Int)} (h : TxN N H as rs) (k : Kp N H H') : TxN N H' as rs := ⟨h.1, fun j a r h1 h2 => ⟨(h.2 j a r h1 h2).1, k _ _ (h.2 j a r h1 h2).1 (h.2 j a r h1 h2).2⟩⟩
theorem TxN.ex {N : Addr → Prop} {H H' : Hp} {as : List Addr} {rs : List (List Int)} (h : TxN N H as rs) (e : Ex H H') : TxN N H' as rs := h.kp (Kp.ex e)
theorem TxN.imp {N M : Addr → Prop} {H : Hp} {as : List Addr} {rs : List (List Int)} (h : TxN N H as rs) (i : ∀ b, H b ≠ none → N b → M b) : TxN M H as rs := ⟨h.1, fun j a r h1 h2 => ⟨i _ (by rw [(h.2 j a r h1 h2).2]; exact fun z => nomatch z) (h.2 j a r h1 h2).1, (h.2 j a r h1 h2).2⟩⟩
theorem EnsN.nil {N : Addr → Prop} {H : Hp} : EnsN N H [] [] := ⟨rfl, fun j a e h _ => by cases h⟩
theorem TxN.nil {N : Addr → Prop} {H : Hp} : TxN N H [] [] := ⟨rfl, fun j a e h _ => by cases h⟩
theorem snoc_at {α β : Type} {as : List α} {es : List β} (hl : as.length = es.length) {a b : α} {e u : β} {j : Nat} (h1 : (as ++ [a])[j]? = some b) (h2 : (es ++ [e])[j]? = some u) : (as[j]? = some b ∧ es[j]? = some u) ∨ (b = a ∧ u = e) := by
  by_cases hj : j < as.length
  · rw [List.getElem?_append_left hj] at h1
    rw [List.getElem?_append_left (by rw [← hl]; exact hj)] at h2
    exact .inl ⟨h1, h2⟩
  · rw [List.getElem?_append_right (by omega)] at h1
    rw [List.getElem?_append_right (by rw [← hl]; omega), ← hl] at h2
    have hj0 := (List.getElem?_eq_some_iff.mp h1).1
    have : j - as.length = 0 := by simp at hj0; omega
    rw [this] at h1 h2
    cases h1
    cases h2
    exact .inr ⟨rfl, rfl⟩
theorem EnsN.snoc {N : Addr → Prop} {H : Hp} {as : List Addr} {es : List En} {a pn pv : Addr} {e : En} (h : EnsN N H as es) (n0 : N a) (g : H a = some (.tup [.ref pn, .ref pv])) (n1 : N pn) (g1 : H pn = some (.lst (e.1.map V.int))) (n2 : N pv) (g2 : H pv = some (.lst (e.2.map V.int))) : EnsN N H (as ++ [a]) (es ++ [e]) := ⟨by rw [List.length_append, List.length_append, h.1]; rfl, fun j b u h1 h2 => by
  rcases snoc_at h.1 h1 h2 with ⟨h1, h2⟩ | ⟨rfl, rfl⟩
  · exact h.2 j b u h1 h2
  · exact ⟨n0, pn, pv, g, n1, g1, n2, g2⟩⟩
theorem TxN.snoc {N : Addr → Prop} {H : Hp} {as : List Addr} {rs : List (List Int)} {a : Addr} {r : List Int} (h : TxN N H as rs) (n0 : N a) (g : H a = some (.lst (r.map V.int))) : TxN N H (as ++ [a]) (rs ++ [r]) := ⟨by rw [List.length_append, List.length_append, h.1]; rfl, fun j b u h1 h2 => by
  rcases snoc_at h.1 h1 h2 with ⟨h1, h2⟩ | ⟨rfl, rfl⟩
  · exact h.2 j b u h1 h2
  · exact ⟨n0, g⟩⟩
theorem EnsN.app {N : Addr → Prop} {H : Hp} {as bs : List Addr} {es fs : List En} (h : EnsN N H as es) (g : EnsN N H bs fs) : EnsN N H (as ++ bs) (es ++ fs) := ⟨by rw [List.length_append, List.length_append, h.1, g.1], fun j b u h1 h2 => by
  by_cases hj : j < as.length
  · rw [List.getElem?_append_left hj] at h1
    rw [List.getElem?_append_left (by rw [← h.1]; exact hj)] at h2
    exact h.2 j b u h1 h2
  · rw [List.getElem?_append_right (by omega)] at h1
    rw [List.getElem?_append_right (by rw [← h.1]; omega), ← h.1] at h2
    exact g.2 _ b u h1 h2⟩
theorem EnsN.take {N : Addr → Prop} {H : Hp} {as : List Addr} {es : List En} (h : EnsN N H as es) (k : Nat) : EnsN N H (as.take k) (es.take k) := ⟨by rw [List.length_take, List.length_take, h.1], fun j b u h1 h2 => by
  rw [List.getElem?_take] at h1 h2
  split at h1
  · rename_i hk
    rw [if_pos hk] at h2
    exact h.2 j b u h1 h2
  · cases h1⟩
theorem EnsN.drop {N : Addr → Prop} {H : Hp} {as : List Addr} {es : List En} (h : EnsN N H as es) (k : Nat) : EnsN N H (as.drop k) (es.drop k) := ⟨by rw [List.length_drop, List.length_drop, h.1], fun j b u h1 h2 => by
  rw [List.getElem?_drop] at h1 h2
  exact h.2 _ b u h1 h2⟩
theorem EnsN.get {N : Addr → Prop} {H : Hp} {as : List Addr} {es : List En} (h : EnsN N H as es) {i : Nat} {x : V} (hx : (as.map V.ref)[i]? = some x) : ∃ a e, as[i]? = some a ∧ es[i]? = some e ∧ x = .ref a ∧ i < es.length ∧ N a ∧ ∃ pn pv, H a = some (.tup [.ref pn, .ref pv]) ∧ N pn ∧ H pn = some (.lst (e.1.map V.int)) ∧ N pv ∧ H pv = some (.lst (e.2.map V.int)) := by
  rw [List.getElem?_map] at hx
  obtain ⟨a, h1, rfl⟩ := Option.map_eq_some_iff.mp hx
  have hi := (List.getElem?_eq_some_iff.mp h1).1
  have h2 : es[i]? = some (es[i]'(by have := h.1; omega)) := List.getElem?_eq_getElem _
  exact ⟨a, _, h1, h2, rfl, by have := h.1; omega, h.2 i a _ h1 h2⟩
theorem TxN.get {N : Addr → Prop} {H : Hp} {as : List Addr} {rs : List (List Int)} (h : TxN N H as rs) {i : Nat} {x : V} (hx : (as.map V.ref)[i]? = some x) : ∃ a r, as[i]? = some a ∧ rs[i]? = some r ∧ x = .ref a ∧ i < rs.length ∧ N a ∧ H a = some (.lst (r.map V.int)) := by
  rw [List.getElem?_map] at hx
  obtain ⟨a, h1, rfl⟩ := Option.map_eq_some_iff.mp hx
  have hi := (List.getElem?_eq_some_iff.mp h1).1
  have h2 : rs[i]? = some (rs[i]'(by have := h.1; omega)) := List.getElem?_eq_getElem _
  exact ⟨a, _, h1, h2, rfl, by have := h.1; omega, h.2 i a _ h1 h2⟩
theorem take_at {α : Type} {l : List α} {i : Nat} {x : α} (h : l[i]? = some x) : l.take (i + 1) = l.take i ++ [x] := by rw [List.take_add_one, h]; rfl
/-! as data -/
def enD (es : List En) : PyData := .list (es.map fun e => PyData.tuple [.list (e.1.map PyData.int), .list (e.2.map PyData.int)])
def txD (rs : List (List Int)) : PyData := .list (rs.map fun r => PyData.list (r.map PyData.int))
theorem dp_ens {N : Addr → Prop} {H : Hp} : ∀ {as : List Addr} {es : List En}, EnsN N H as es → DpAll K H (as.map V.ref) (es.map fun e => PyData.tuple [.list (e.1.map PyData.int), .list (e.2.map PyData.int)])
  | [], [], _ => .nil
  | a :: as, e :: es, h => by
    obtain ⟨_, pn, pv, g, _, g1, _, g2⟩ := h.2 0 a e rfl rfl
    exact .cons (.tup (st_of g) (.cons (.lst (sq_of g1) (dp_ints _)) (.cons (.lst (sq_of g2) (dp_ints _)) .nil))) (dp_ens ⟨by have := h.1; simpa using this, fun j b q h1 h2 => h.2 (j + 1) b q h1 h2⟩)
  | [], _ :: _, h => by have := h.1; simp at this
  | _ :: _, [], h => by have := h.1; simp at this
theorem dp_txs {N : Addr → Prop} {H : Hp} : ∀ {as : List Addr} {rs : List (List Int)}, TxN N H as rs → DpAll K H (as.map V.ref) (rs.map fun r => PyData.list (r.map PyData.int))
  | [], [], _ => .nil
  | a :: as, r :: rs, h => .cons (.lst (sq_of (h.2 0 a r rfl rfl).2) (dp_ints _)) (dp_txs ⟨by have := h.1; simpa using this, fun j b q h1 h2 => h.2 (j + 1) b q h1 h2⟩)
  | [], _ :: _, h => by have := h.1; simp at this
  | _ :: _, [], h => by have := h.1; simp at this
theorem lay_en : ∀ es : List En, PyData.canLayAll0 (es.map fun e => PyData.tuple [.list (e.1.map PyData.int), .list (e.2.map PyData.int)]) = true ∧ PyData.depthAll (es.map fun e => PyData.tuple [.list (e.1.map PyData.int), .list (e.2.map PyData.int)]) ≤ 3
  | [] => ⟨rfl, by simp [PyData.depthAll]⟩
  | e :: es => by
    obtain ⟨h1, h2⟩ := lay_en es
    have a1 := canLay_ints e.1
    have a2 := depth_ints e.1
    have b1 := canLay_ints e.2
    have b2 := depth_ints e.2
    refine ⟨by simp only [List.map_cons, PyData.canLayAll0, PyData.canLay0, h1, a1, b1, Bool.and_self], ?_⟩
    simp only [List.map_cons, PyData.depthAll, PyData.depth]
    omega
theorem lay_tx : ∀ rs : List (List Int), PyData.canLayAll0 (rs.map fun r => PyData.list (r.map PyData.int)) = true ∧ PyData.depthAll (rs.map fun r => PyData.list (r.map PyData.int)) ≤ 2
  | [] => ⟨rfl, by simp [PyData.depthAll]⟩
  | r :: rs => by
    obtain ⟨h1, h2⟩ := lay_tx rs
    have h3 := canLay_ints r
    have h4 := depth_ints r
    refine ⟨by simp only [List.map_cons, PyData.canLayAll0, PyData.canLay0, h1, h3, Bool.and_self], ?_⟩
    simp only [List.map_cons, PyData.depthAll, PyData.depth]
    omega
theorem shaped_en (es : List En) : SeqAt.shaped (enD es) = true := by
  obtain ⟨h1, h2⟩ := lay_en es
  unfold SeqAt.shaped enD
  rw [Bool.and_eq_true, decide_eq_true_iff]
  refine ⟨by simp only [PyData.canLay0, h1], ?_⟩
  simp only [PyData.depth]
  omega
theorem shaped_tx (rs : List (List Int)) : SeqAt.shaped (txD rs) = true := by
  obtain ⟨h1, h2⟩ := lay_tx rs
  unfold SeqAt.shaped txD
  rw [Bool.and_eq_true, decide_eq_true_iff]
  refine ⟨by simp only [PyData.canLay0, h1], ?_⟩
  simp only [PyData.depth]
  omega
theorem ed_ens {N : Addr → Prop} {te : TE} {σ : L2.St} {H : Hp} {p : Addr} {as : List Addr} {es : List En} (h : Ev te σ H (.ref p)) (g : H p = some (.lst (as.map V.ref))) (hE : EnsN N H as es) : EvD K te σ H (enD es) := EvD.of h (.lst (sq_of g) (dp_ens hE))
theorem ed_txs {N : Addr → Prop} {te : TE} {σ : L2.St} {H : Hp} {p : Addr} {as : List Addr} {rs : List (List Int)} (h : Ev te σ H (.ref p)) (g : H p = some (.lst (as.map V.ref))) (hE : TxN N H as rs) : EvD K te σ H (txD rs) := EvD.of h (.lst (sq_of g) (dp_txs hE))
/-- a comprehension over a list, with tests, each item whatever its reading says -/
theorem tlc_lstF {t1 te : TE} {tt : TT} {g : TG} {vs : List Nat} {xs : List V} {σ : L2.St} {H : Hp} {Q : VK} (h : EvS K t1 σ H xs)
    (k : ∀ p H1, Ex H H1 → SqL K H1 p xs → ∀ Dl, H1 Dl = none → ∃ Pv : Nat → Hp → Prop, Pv 0 (upd H1 Dl (.lst [])) ∧ (∀ (i : Nat) H', Pv i H' → SqL K H' p xs) ∧ (∀ (i : Nat) (x : V) H', xs[i]? = some x → Pv i H' → g x (wipe σ vs) H' fun σ2 H2 => wipe σ2 vs = wipe σ vs ∧ tt σ2 H2 fun b H3 => if b = true then te σ2 H3 fun y H4 => ∃ acc, H4 Dl = some (.lst acc) ∧ acc.length < sizeLine ∧ Pv (i + 1) (upd H4 Dl (.lst (acc ++ [y]))) else Pv (i + 1) H3) ∧ (∀ H', Pv xs.length H' → Q (.ref Dl) H')) :
    tLc (iList K t1) g tt te vs σ H Q := h H (Ex.refl H) _ fun p H1 e1 hp => ⟨p, rfl, ⟨xs, hp⟩, fun Dl hD => by
  obtain ⟨Pv, h0, hl, hs, hd⟩ := k p H1 e1 hp Dl hD
  exact lc_list Pv h0 (fun i H' _ q => hl i H' q) (fun i x H' hi q => hs i x H' hi q) hd⟩
theorem tlc_lstG {t1 te : TE} {g : TG} {vs : List Nat} {xs : List V} {σ : L2.St} {H : Hp} {Q : VK} (h : EvS K t1 σ H xs)
    (k : ∀ p H1, Ex H H1 → SqL K H1 p xs → ∀ Dl, H1 Dl = none → ∃ Pv : Nat → Hp → Prop, Pv 0 (upd H1 Dl (.lst [])) ∧ (∀ (i : Nat) H', Pv i H' → SqL K H' p xs) ∧ (∀ (i : Nat) (x : V) H', xs[i]? = some x → Pv i H' → g x (wipe σ vs) H' fun σ2 H2 => wipe σ2 vs = wipe σ vs ∧ te σ2 H2 fun y H4 => ∃ acc, H4 Dl = some (.lst acc) ∧ acc.length < sizeLine ∧ Pv (i + 1) (upd H4 Dl (.lst (acc ++ [y])))) ∧ (∀ H', Pv xs.length H' → Q (.ref Dl) H')) :
    tLc (iList K t1) g tYes te vs σ H Q := tlc_lstF h k
theorem ne_known {H : Hp} {a b : Addr} (ha : H a = none) (hb : H b ≠ none) : a ≠ b := by rintro rfl; exact hb ha

theorem ex_go {te : TE} {σ : L2.St} {H : Hp} {S : V → Hp → Prop} {Q : VK} (h : EvX te σ H S) (k : ∀ v H2, Ex H H2 → S v H2 → Q v H2) : te σ H Q := h H (Ex.refl H) Q k
theorem ex_tupF {t : TA} {σ : L2.St} {H : Hp} {R : List V → Hp → Prop} (h : EvAP t σ H R) (hl : ∀ vs G, R vs G → vs.length ≤ 100000) : EvX (tTup t) σ H (fun v G => ∃ p vs G0, v = .ref p ∧ H p = none ∧ G p = some (.tup vs) ∧ Ex G0 G ∧ R vs G0) := fun H1 e Q q => h H1 e _ fun vs H2 e2 hR => ⟨sz_of (hl vs H2 hR), fun p hp => q (.ref p) _ (e2.trans (Ex.new hp)) ⟨p, vs, H2, rfl, fresh_back (e.trans e2) hp, upd_same, Ex.new hp, hR⟩⟩

/-! ### comments -/
def fsC (x0 x1 : V) : List (Str × V) := [("vendor", x0), ("entries", x1)]
def CmN (N : Addr → Prop) (C : Addr) (H : Hp) (c : Addr) (vd : List Int) (es : List En) : Prop := ∃ (dx pv pe : Addr) (as : List Addr), N c ∧ H c = some (.ins C dx (fsC (.ref pv) (.ref pe))) ∧ N pv ∧ H pv = some (.lst (vd.map V.int)) ∧ N pe ∧ H pe = some (.lst (as.map V.ref)) ∧ EnsN N H as es
theorem CmN.kp {N : Addr → Prop} {C : Addr} {H H' : Hp} {c : Addr} {vd : List Int} {es : List En} (h : CmN N C H c vd es) (k : Kp N H H') : CmN N C H' c vd es := by
  obtain ⟨dx, pv, pe, as, n0, g0, n1, g1, n2, g2, hE⟩ := h
  exact ⟨dx, pv, pe, as, n0, k _ _ n0 g0, n1, k _ _ n1 g1, n2, k _ _ n2 g2, hE.kp k⟩
theorem CmN.ex {N : Addr → Prop} {C : Addr} {H H' : Hp} {c : Addr} {vd : List Int} {es : List En} (h : CmN N C H c vd es) (e : Ex H H') : CmN N C H' c vd es := h.kp (Kp.ex e)
theorem CmN.imp {N M : Addr → Prop} {C : Addr} {H : Hp} {c : Addr} {vd : List Int} {es : List En} (h : CmN N C H c vd es) (i : ∀ b, H b ≠ none → N b → M b) : CmN M C H c vd es := by
  obtain ⟨dx, pv, pe, as, n0, g0, n1, g1, n2, g2, hE⟩ := h
  exact ⟨dx, pv, pe, as, i _ (by rw [g0]; exact fun z => nomatch z) n0, g0, i _ (by rw [g1]; exact fun z => nomatch z) n1, g1, i _ (by rw [g2]; exact fun z => nomatch z) n2, g2, hE.imp i⟩
theorem EnsN.fro {H H' : Hp} {a C dx : Addr} {fs : List (Str × V)} {as : List Addr} {es : List En} (h : EnsN (fun _ => True) H as es) (ha : H a = some (.ins C dx fs)) (f : FrO a H H') : EnsN (fun _ => True) H' as es := ⟨h.1, fun j b e h1 h2 => by
  obtain ⟨n0, pn, pv, g1, n1, g2, n2, g3⟩ := h.2 j b e h1 h2
  exact ⟨n0, pn, pv, f _ _ (by rintro rfl; rw [ha] at g1; cases g1) g1, n1, f _ _ (by rintro rfl; rw [ha] at g2; cases g2) g2, n2, f _ _ (by rintro rfl; rw [ha] at g3; cases g3) g3⟩⟩
theorem s_fldX {σ : L2.St} {H : Hp} {to tv : TE} {a C dx : Addr} {fs : List (Str × V)} {f : Str} {D : Ends} {S : V → Hp → Prop} (c : Cls K C) (hn : NoAttr K C f) (hv : EvX tv σ H S) (hu : Up S) (h : ∀ H1, Ex H H1 → Ev to σ H1 (.ref a)) (hx : H a = some (.ins C dx fs)) (hl : fs.length < 1000)
    (k : ∀ v H1, Ex H H1 → S v H1 → D.nx σ (upd H1 a (.ins C dx (putF f v fs)))) : sFld K to tv f D σ H :=
  hv H (Ex.refl H) _ fun v H1 e1 hS => h H1 e1 H1 (Ex.refl H1) _ fun H2 e2 => ⟨a, C, dx, fs, rfl, (e1.trans e2) _ _ hx, c, hn, hl, k v H2 (e1.trans e2) (hu _ _ _ e2 hS)⟩
def sp_cinit (C : Addr) : Sp := fun vs H Q _ => ∃ (a dx v l : Addr) (as : List Addr) (vd : List Int) (es : List En), vs = [.ref a, .ref v, .ref l] ∧ H a = some (.ins C dx []) ∧ H v = some (.lst (vd.map V.int)) ∧ H l = some (.lst (as.map V.ref)) ∧ EnsN (fun _ => True) H as es ∧ es.length ≤ 1000 ∧
  ∀ H', FrO a H H' → (∃ (pv pe : Addr) (as' : List Addr), H' a = some (.ins C dx (fsC (.ref pv) (.ref pe))) ∧ H pv = none ∧ H' pv = some (.lst (vd.map V.int)) ∧ H pe = none ∧ H' pe = some (.lst (as'.map V.ref)) ∧ EnsN (fun b => H b = none) H' as' es) → Q .non H'
theorem ok_Comments_init (T : TX K mg) : FnOk P w K mg base CX0 1 T.a_Comments_init T.d_Comments_init ["self", "vendor", "entries"] (sp_cinit T.C_Comments) := by
  refine T.F_Comments_init.ok sc_Comments_init (fun vs H Q E h => by obtain ⟨a, dx, v, l, as, vd, es, rfl, _⟩ := h; rfl) (fun cdv A outer s H vs Q E hr h => ?_)
  obtain ⟨a, dx, v, l, as, vd, es, rfl, ha, gv, gl, hE, hel, k⟩ := h
  refine ⟨_, (pss_cons (ps_fld (pv 0) (pe_callTy (r := rListS K) call_list_of (by rfl) T.m_list PyProof.Rows.boot_list (pa_cons (pv 1) pa_nil)) rfl)
      (pss_one (ps_fld (pv 0) (pe_lc (own := [("name", 3), ("value", 4)]) (g := (gTup K 2 (gCons (gName 3) (gCons (gName 4) gNil)))) (tt := tYes) rfl sc_Comments_init.nd (pi_list (pv 2)) (blkOk_by (N := ["self", "vendor", "entries", "name", "value"]) (sc := defScope s_Comments_init) (by decide +kernel)) (fun _ _ _ _ _ => (pg_tup rfl (pgs_cons (pg_name (i := 3) sc_Comments_init.nd rfl (Or.inl rfl)) (pgs_cons (pg_name (i := 4) sc_Comments_init.nd rfl (Or.inl rfl)) pgs_nil)))) (fun _ _ _ _ _ => pts_nil) (fun _ _ _ _ _ => (pe_tup (pa_cons (pe_callTy (r := rListS K) call_list_of (by rfl) T.m_list PyProof.Rows.boot_list (pa_cons (pv 3) pa_nil)) (pa_cons (pe_callTy (r := rListS K) call_list_of (by rfl) T.m_list PyProof.Rows.boot_list (pa_cons (pv 4) pa_nil)) pa_nil))))) rfl))), ?_⟩
  refine q_fldL T.cl_Comments T.n_Comments_vendor (el_of (K := K) (Ev.s (ev_var rfl) (sq_of gv))) (fun _ _ => ev_var rfl) ha (by decide) fun pv H1 hpv e1 g1 => ?_
  have hpva : pv ≠ a := by rintro rfl; rw [ha] at hpv; cases hpv
  have f1 : FrO a H (upd H1 a (.ins T.C_Comments dx (putF "vendor" (.ref pv) []))) := (FrO.ex e1).upd
  have ga : upd H1 a (.ins T.C_Comments dx (putF "vendor" (.ref pv) [])) a = some (.ins T.C_Comments dx (putF "vendor" (.ref pv) [])) := upd_same
  have gpv : upd H1 a (.ins T.C_Comments dx (putF "vendor" (.ref pv) [])) pv = some (.lst (vd.map V.int)) := by rw [upd_ne hpva]; exact g1
  generalize upd H1 a (.ins T.C_Comments dx (putF "vendor" (.ref pv) [])) = H2 at *
  have gl2 := f1 _ _ (by rintro rfl; rw [ha] at gl; cases gl) gl
  have hE2 := hE.fro ha f1
  have back : ∀ b, H2 b = none → H b = none := fun b hb => by
    cases h : H b with
    | none => rfl
    | some o =>
      by_cases hba : b = a
      · rw [hba, ga] at hb; cases hb
      · rw [f1 b o hba h] at hb; cases hb
  refine s_fldX (S := fun v G => ∃ (p : Addr) (as' : List Addr), v = .ref p ∧ H2 p = none ∧ G p = some (.lst (as'.map V.ref)) ∧ EnsN (fun b => H2 b = none) G as' es) T.cl_Comments T.n_Comments_entries (fun G0 eG0 Q0 q0 => ?_) (fun v G G' e ⟨p, as', h1, h2, h3, h4⟩ => ⟨p, as', h1, h2, e _ _ h3, h4.ex e⟩) (fun _ _ => ev_var rfl) ga (Nat.le_of_ble_eq_true rfl) fun v H3 e3 hS => ?_
  · refine tlc_lstG (K := K) (Ev.s (ev_var rfl) (sq_of (eG0 _ _ gl2))) fun p1 H3 e3 hp1 Dl hDl => ⟨fun i H' => ∃ as', Ex H3 H' ∧ H' Dl = some (.lst (as'.map V.ref)) ∧ EnsN (fun b => H3 b = none ∧ b ≠ Dl) H' as' (es.take i), ⟨[], Ex.new hDl, upd_same, EnsN.nil⟩, fun i H' h => by obtain ⟨_, ex, _⟩ := h; exact ex_l ex hp1, fun i x H' hx h => ?_, fun H' h => ?_⟩
    · obtain ⟨as', ex, gD, hEp⟩ := h
      obtain ⟨ai, e, hai, hei, rfl, hi, _, pn, pw, g0, _, g1', _, g2'⟩ := (hE2.ex (eG0.trans (e3.trans ex))).get hx
      refine ⟨ai, [.ref pn, .ref pw], rfl, st_of g0, rfl, _, _, rfl, _, _, rfl, rfl, rfl, ?_⟩
      refine ex_go (te := tTup (tCons (tCB (rListS K) (tCons (tVar 3) tNil)) (tCons (tCB (rListS K) (tCons (tVar 4) tNil)) tNil))) (σ := [some (.ref a), some (.ref v), some (.ref l), some (.ref pn), some (.ref pw)]) (H := H') (ex_tupF (ap_l (el_of (K := K) (Ev.s (ev_var rfl) (sq_of g1'))) (ap_l (el_of (K := K) (Ev.s (ev_var rfl) (sq_of g2'))) ap_nil)) (fun vs G hR => by obtain ⟨_, _, rfl, _, _, _, _, rfl, _, _, rfl⟩ := hR; exact Nat.le_of_ble_eq_true rfl)) fun v H5 e5 hv => ?_
      obtain ⟨pt, vs, G5, rfl, hpt, gpt, eG5, q1, _, rfl, hq1, gq1, q2, _, rfl, hq2, gq2, rfl⟩ := hv
      have neD : ∀ {b : Addr}, H' b = none → b ≠ Dl := fun hb => ne_known hb (by rw [gD]; exact fun z => nomatch z)
      have kp : Kp (fun b => H3 b = none ∧ b ≠ Dl) H' (upd H5 Dl (.lst (as'.map V.ref ++ [.ref pt]))) := (Kp.ex e5).mut fun h => absurd rfl h.2
      refine ⟨_, e5 _ _ gD, sz_lt (by rw [List.length_map, hEp.1, List.length_take]; omega), as' ++ [pt], Ex.mut (ex.trans e5) hDl, by rw [upd_same, List.map_append]; rfl, ?_⟩
      rw [take_at hei]
      exact (hEp.kp kp).snoc ⟨fresh_back ex hpt, neD hpt⟩ (by rw [upd_ne (neD hpt)]; exact gpt) ⟨fresh_back ex hq1, neD hq1⟩ (by rw [upd_ne (neD hq1)]; exact eG5 _ _ gq1) ⟨fresh_back ex hq2, neD hq2⟩ (by rw [upd_ne (neD hq2)]; exact eG5 _ _ gq2)
    · obtain ⟨as', ex, gD, hEp⟩ := h
      rw [List.length_map, hE.1, List.take_length] at hEp
      exact q0 _ _ (e3.trans ex) ⟨Dl, as', rfl, fresh_back (eG0.trans e3) hDl, gD, hEp.imp fun b _ h => fresh_back (eG0.trans e3) h.1⟩
  · obtain ⟨pe, as', rfl, hpe, gpe, hE'⟩ := hS
    have hpea : pe ≠ a := ne_known hpe (by rw [ga]; exact fun z => nomatch z)
    have kp : Kp (fun b => H2 b = none) H3 (upd H3 a (.ins T.C_Comments dx (putF "entries" (.ref pe) (putF "vendor" (.ref pv) [])))) := fun b o n g => by
      rw [upd_ne (ne_known n (by rw [ga]; exact fun z => nomatch z))]
      exact g
    refine k _ ((f1.trans (FrO.ex e3)).upd) ⟨pv, pe, as', upd_same, hpv, ?_, back _ hpe, ?_, (hE'.kp kp).imp fun b _ h => back b h⟩
    · rw [upd_ne hpva]
      exact e3 _ _ gpv
    · rw [upd_ne hpea]
      exact gpe
theorem en_makeAPF {t : TA} {σ : L2.St} {H : Hp} {R : List V → Hp → Prop} {C : Addr} {sp : Sp} {dvs : List V} {E : XK} {S : Addr → Hp → Prop} (h : EvAP t σ H R) (k : ∀ vs a dx H1 (Q : VK) (E : XK), Ex H H1 → H a = none → (∃ G, Ex G H1 ∧ R vs G) → H1 a = some (.ins C dx []) → (∀ H', FrO a H1 H' → S a H' → Q .non H') → sp (.ref a :: (vs ++ dvs)) H1 Q E) : EvN (tMake C sp dvs E t) σ H S := fun H1 e Q q =>
  h H1 e _ fun vs H2 e2 hR => fun x dx hx hdx hne => k vs x dx _ _ _ ((e.trans e2).trans (Ex.mut (Ex.new hdx) hx)) (fresh_back (e.trans e2) hx) ⟨H2, Ex.mut (Ex.new hdx) hx, hR⟩ upd_same fun H' hF hS => ⟨rfl, q x H' (fresh_back e2 hx) (fun b o hb => hF b o (fresh_ne hx (e2 b o hb)) ((Ex.mut (Ex.new hdx) hx) b o (e2 b o hb))) hS⟩
def EsAt (es : List En) : V → Hp → Prop := fun v G => ∃ (l : Addr) (as : List Addr), v = .ref l ∧ G l = some (.lst (as.map V.ref)) ∧ EnsN (fun _ => True) G as es
theorem EsAt.up (es : List En) : Up (EsAt es) := fun v G G' e ⟨l, as, h1, h2, h3⟩ => ⟨l, as, h1, e _ _ h2, h3.ex e⟩
theorem en_cm (T : TX K mg) {σ : L2.St} {H : Hp} {t1 t2 : TE} {E : XK} {v : Addr} {vd : List Int} {es : List En} (h1 : Ev t1 σ H (.ref v)) (gv : H v = some (.lst (vd.map V.int))) (h2 : EvX t2 σ H (EsAt es)) (hl : es.length ≤ 1000) : EvN (tMake T.C_Comments (sp_cinit T.C_Comments) [] E (tCons t1 (tCons t2 tNil))) σ H (fun c G => CmN (fun b => H b = none) T.C_Comments G c vd es) :=
  en_makeAPF (ap_ev h1 (ap_x h2 (EsAt.up es) ap_nil)) fun vs a dx H1 Q E eH ha0 hG ha kk => by
    obtain ⟨G, eG, r1, rfl, v2, r2, rfl, hS, rfl⟩ := hG
    obtain ⟨l, as, rfl, gl, hE⟩ := EsAt.up es _ _ _ eG hS
    exact ⟨a, dx, v, l, as, vd, es, rfl, ha, eH _ _ gv, gl, hE, hl, fun H' hF ⟨pv, pe, as', g0, n1, g1, n2, g2, hE'⟩ => kk H' hF ⟨dx, pv, pe, as', ha0, g0, fresh_back eH n1, g1, fresh_back eH n2, g2, hE'.imp fun b _ h => fresh_back eH h⟩⟩
theorem cm_get {C : Addr} {H : Hp} {c : Addr} {vd : List Int} {es : List En} {N : Addr → Prop} (h : CmN N C H c vd es) : ∃ (dx pv pe : Addr) (as : List Addr), H c = some (.ins C dx (fsC (.ref pv) (.ref pe))) ∧ H pv = some (.lst (vd.map V.int)) ∧ H pe = some (.lst (as.map V.ref)) ∧ EnsN (fun _ => True) H as es := by
  obtain ⟨dx, pv, pe, as, _, g0, _, g1, _, g2, hE⟩ := h
  exact ⟨dx, pv, pe, as, g0, g1, g2, hE.imp fun _ _ _ => trivial⟩

def lowB (n : Int) (c : Nat) : List Int := (List.range c).map fun i => n / 2 ^ (8 * i) % 256
theorem lowB_len (n : Int) (c : Nat) : (lowB n c).length = c := by unfold lowB; rw [List.length_map, List.length_range]
/-! ### numbers of whole bytes, the least significant first -/
theorem q_forRv {te : TE} {tu tz : TS} {D : Ends} {σ : L2.St} {H : Hp} {xs : List V} {j : Nat} (h : EvL te σ H xs) (Pv : Addr → Nat → L2.St → Hp → Prop) (h0 : ∀ p H1, H p = none → Ex H H1 → H1 p = some (.lst xs) → Pv p 0 σ H1) (hq : ∀ p i σ H, i ≤ xs.length → Pv p i σ H → SqL K H p xs)
    (hs : ∀ p i x σ H, i < xs.length → xs[xs.length - 1 - i]? = some x → Pv p i σ H → tu { D with nx := Pv p (i + 1), ct := Pv p (i + 1), bk := tz D } (σ.set j (some x)) H) (hd : ∀ p σ H, Pv p xs.length σ H → tz D σ H) : tSeq (tFor (iRev K (tCons te tNil)) (gName j) tu) tz D σ H :=
  h H (Ex.refl H) _ fun p H1 hp e1 g1 => ⟨p, xs, rfl, sq_of g1, for_it (D := { D with nx := tz D }) walk_rev (Pv p) (h0 p H1 hp e1 g1) (fun i σ H hi pv => hq p i σ H hi pv) (fun i x σ H H' hi pv y => by
    obtain ⟨rfl, y⟩ := y
    exact hs p i x σ _ hi y pv) (hd p)⟩
def sp_lowl : Sp := fun vs H Q _ => ∃ (n : Int) (c : Nat), vs = [.int n, .int (c : Int)] ∧ c ≤ 1000 ∧ RetL ((lowB n c).map V.int) H Q
theorem ok_little_bytes (T : TX K mg) : FnOk P w K mg base CX0 1 T.a_little_bytes T.d_little_bytes ["number", "count"] sp_lowl := by
  refine T.F_little_bytes.ok sc_little_bytes (fun vs H Q E h => by obtain ⟨n, c, rfl, _⟩ := h; rfl) (fun cdv A outer s H vs Q E hr h => ?_)
  obtain ⟨n, c, rfl, hc, k⟩ := h
  refine ⟨_, (pss_one (ps_ret (pe_lc (own := [("shift", 2)]) (g := gName 2) (tt := tYes) rfl sc_little_bytes.nd (pi_range3 (by rfl) T.m_range (pa_cons pe_int (pa_cons (pe_op op_mul pe_int (pv 1)) (pa_cons pe_int pa_nil)))) (blkOk_by (N := ["number", "count", "shift"]) (sc := defScope s_little_bytes) (by decide +kernel)) (fun _ _ _ _ _ => pg_name (i := 2) sc_little_bytes.nd rfl (Or.inl rfl)) (fun _ _ _ _ _ => pts_nil) (fun _ _ _ _ _ => (pe_op op_and (pe_op op_shr (pv 0) (pv 2)) pe_int))))), ?_⟩
  refine s_retL (xs := (lowB n c).map V.int) (el_lcC (n := c) _ (ea_cons ev_c (ea_cons (Ev.is (ev_I ev_c (ev_var rfl) (.inl (by decide))) (congrArg V.int (a₂ := ((8 * c : Nat) : Int)) (by omega))) (ea_cons ev_c ea_nil))) (rg8 (by omega)) (by rw [List.length_map, lowB_len]) (by rw [List.length_map, lowB_len]; omega) (fun _ => rfl) fun i H1 e1 hi => ?_) k
  refine ⟨_, at_int (n := n / 2 ^ (8 * i) % 256) (by unfold lowB; rw [List.getElem?_map, List.getElem?_range hi]; rfl), Ev.is (ev_I0 (ev_I (j := ((8 * i : Nat) : Int)) (ev_var rfl) (Ev.is (ev_var rfl) (congrArg V.int (by omega))) (by show (0 : Int) ≤ _; omega)) ev_c) (congrArg V.int ?_)⟩
  rw [Int.toNat_natCast]
  exact bitAnd_maskZ _ 8
theorem el_lb {σ : L2.St} {H : Hp} {t1 t2 : TE} {E : XK} {n : Int} {c : Nat} (h1 : Ev t1 σ H (.int n)) (h2 : Ev t2 σ H (.int (c : Int))) (hc : c ≤ 1000) : EvL (tCall sp_lowl [] E (tCons t1 (tCons t2 tNil))) σ H ((lowB n c).map V.int) := el_call (ea_cons h1 (ea_cons h2 ea_nil)) fun G e Q2 q2 _ => ⟨n, c, rfl, hc, q2⟩
/-- a number of so many bytes stands at a place -/
def HasN (ds : List Int) (pos m x : Nat) : Prop := ∀ j, j < m → ds[pos + j]? = some ((x / 2 ^ (8 * j) % 256 : Nat) : Int)
theorem HasN.cut {ds : List Int} {pos m x : Nat} (h : HasN ds pos m x) : (ds.drop pos).take m = (List.range m).map fun j => ((x / 2 ^ (8 * j) % 256 : Nat) : Int) := by
  refine List.ext_getElem? fun j => ?_
  rw [List.getElem?_take, List.getElem?_map]
  by_cases hj : j < m
  · rw [if_pos hj, List.getElem?_drop, h j hj, List.getElem?_range hj]
    rfl
  · rw [if_neg hj, List.getElem?_eq_none (by rw [List.length_range]; omega)]
    rfl
theorem low_nat (v : Int) (m j : Nat) (hj : j < m) : v / 2 ^ (8 * j) % 256 = (((v % 2 ^ (8 * m)).toNat / 2 ^ (8 * j) % 256 : Nat) : Int) := by
  obtain ⟨c, hc⟩ : ∃ c : Int, 2 ^ (8 * j) = c := ⟨_, rfl⟩
  obtain ⟨b, hb⟩ : ∃ b : Int, 2 ^ (8 * (m - 1 - j)) = b := ⟨_, rfl⟩
  have hc0 : 0 < c := by rw [← hc]; exact Int.pow_pos (by decide)
  have hb0 : 0 < b := by rw [← hb]; exact Int.pow_pos (by decide)
  have hM : (2 : Int) ^ (8 * m) = c * (256 * b) := by rw [← hc, ← hb, show 8 * m = 8 * j + (8 + 8 * (m - 1 - j)) by omega, Int.pow_add, Int.pow_add]; rfl
  have h0 := Int.emod_nonneg v (show (2 : Int) ^ (8 * m) ≠ 0 by have := Int.pow_pos (n := 2) (m := 8 * m) (by decide); omega)
  rw [Int.natCast_emod, Int.natCast_ediv, Int.toNat_of_nonneg h0, Int.natCast_pow, hM]
  show v / 2 ^ (8 * j) % 256 = v % (c * (256 * b)) / 2 ^ (8 * j) % 256
  rw [hc]
  have e := Int.emod_add_mul_ediv v (c * (256 * b))
  generalize v / (c * (256 * b)) = q at *
  generalize v % (c * (256 * b)) = r at *
  rw [← e, Int.mul_assoc, Int.add_mul_ediv_left _ _ (show c ≠ 0 by omega), Int.mul_assoc, Int.add_mul_emod_self_left]
theorem HasN.of {ds : List Int} {pos m : Nat} {v : Int} {r : List Int} (h : ds.drop pos = lowB v m ++ r) : HasN ds pos m (v % 2 ^ (8 * m)).toNat := fun j hj => by
  rw [← List.getElem?_drop, h, List.getElem?_append_left (by rw [lowB_len]; exact hj)]
  unfold lowB
  rw [List.getElem?_map, List.getElem?_range hj]
  exact congrArg some (low_nat v m j hj)
theorem HasN.ofN {ds : List Int} {pos m x : Nat} {r : List Int} (h : ds.drop pos = lowB (x : Int) m ++ r) (hx : x < 2 ^ (8 * m)) : HasN ds pos m x := by
  have := HasN.of h
  have e : ((x : Int) % 2 ^ (8 * m)).toNat = x := by
    have h2 : ((2 : Int) ^ (8 * m)) = ((2 ^ (8 * m) : Nat) : Int) := by rw [Int.natCast_pow]; rfl
    rw [h2, ← Int.natCast_emod, Int.toNat_natCast, Nat.mod_eq_of_lt hx]
  rwa [e] at this
theorem or_join8 (a d : Nat) (h : d < 256) : Builtin.bitOr ((a : Int) * 2 ^ (8 : Int).toNat) (d : Int) = ((a * 256 + d : Nat) : Int) := by
  have h1 := _root_.Bits.bitOr_join' (a := (d : Int)) (b := (a : Int)) (k := 8) (by omega) (by show _ < ((2 : Int) ^ 8); have e : ((2 : Int) ^ 8) = 256 := rfl; omega) (by omega)
  have e : (8 : Int).toNat = 8 := rfl
  rw [e, h1]
  have e2 : ((2 : Int) ^ 8) = 256 := rfl
  omega
def sp_lnum (K : PySem.W.Frag) : Sp := fun vs H Q _ => ∃ (p : Addr) (ds : List Int) (pos m x : Nat), vs = [.ref p, .int (pos : Int), .int (m : Int)] ∧ SqL K H p (ds.map V.int) ∧ m ≤ 4 ∧ HasN ds pos m x ∧ x < 2 ^ (8 * m) ∧ RetV (.int (x : Int)) H Q
theorem ok_little_number (T : TX K mg) : FnOk P w K mg base CX0 1 T.a_little_number T.d_little_number ["data", "place", "count"] (sp_lnum K) := by
  refine T.F_little_number.ok sc_little_number (fun vs H Q E h => by obtain ⟨p, ds, pos, m, x, rfl, _⟩ := h; rfl) (fun cdv A outer s H vs Q E hr h => ?_)
  obtain ⟨p, ds, pos, m, x, rfl, hS, hm, hN, hx, k⟩ := h
  refine ⟨_, (pss_cons (ps_set (i := 3) sc_little_number.nd rfl (Or.inl rfl) pe_int)
      (pss_cons (ps_for PassesOwn.never rfl (pi_reversed (by rfl) T.m_reversed (pa_cons (pe_slice (r := rSlL K) sl_list (pv 0) (po_some (pv 1)) (po_some (pe_op op_add (pv 1) (pv 2)))) pa_nil)) (pg_name (i := 4) sc_little_number.nd rfl (Or.inl rfl)) (pss_one (ps_set (i := 3) sc_little_number.nd rfl (Or.inl rfl) (pe_op op_or (pe_op op_shl (pv 3) pe_int) (pv 4)))))
      (pss_one (ps_ret (pv 3))))), ?_⟩
  have hx32 : x < 2 ^ 32 := Nat.lt_of_lt_of_le hx (Nat.pow_le_pow_right (by decide) (by omega))
  have e32 : (2 : Nat) ^ 32 = 4294967296 := rfl
  refine q_asg (v := .int 0) ev_c fun H1 e1 => ?_
  refine q_forRv (xs := ((List.range m).map fun j => ((x / 2 ^ (8 * j) % 256 : Nat) : Int)).map V.int) (EvL.is (el_mid (i := pos) (j := pos + m) (Ev.s (ev_var rfl) (ex_l e1 hS)) (ev_var rfl) (Ev.is (ev_I0 (ev_var rfl) (ev_var rfl)) (congrArg V.int (by omega)))) (by rw [Nat.add_sub_cancel_left, hN.cut])) (fun q i σ' H' => ∃ z : Option V, σ' = [some (.ref p), some (.int (pos : Int)), some (.int (m : Int)), some (.int ((x / 2 ^ (8 * (m - i)) : Nat) : Int)), z] ∧ Ex H H' ∧ H' q = some (.lst (((List.range m).map fun j => ((x / 2 ^ (8 * j) % 256 : Nat) : Int)).map V.int))) (fun q H2 hq e2 g2 => ⟨none, by rw [Nat.sub_zero, Nat.div_eq_of_lt hx]; rfl, e1.trans e2, g2⟩) (fun q i σ' H' _ h => by obtain ⟨_, _, _, g⟩ := h; exact sq_of g) ?_ ?_
  · rintro q i v σ' H2 hi hv ⟨z, rfl, ex, gq⟩
    rw [List.length_map, List.length_map, List.length_range] at hi hv
    rw [List.getElem?_map, List.getElem?_map, List.getElem?_range (by omega)] at hv
    have hv : V.int ((x / 2 ^ (8 * (m - 1 - i)) % 256 : Nat) : Int) = v := Option.some.inj hv
    subst hv
    obtain ⟨kk, hkk⟩ : ∃ kk, m - 1 - i = kk := ⟨_, rfl⟩
    rw [hkk, show m - i = kk + 1 by omega, show m - (i + 1) = kk by omega]
    have hdiv : x / 2 ^ (8 * (kk + 1)) = x / 2 ^ (8 * kk) / 256 := by
      rw [Nat.div_div_eq_div_mul, show 8 * (kk + 1) = 8 * kk + 8 by omega, Nat.pow_add]
    have hyx : x / 2 ^ (8 * kk) ≤ x := Nat.div_le_self ..
    rw [hdiv]
    generalize x / 2 ^ (8 * kk) = y at *
    refine s_asg (v := .int (y : Int)) (Ev.is (ev_I0 (ev_I (ev_var rfl) ev_c (show CPow ((y / 256 : Nat) : Int) 8 from ⟨by decide, by decide, by omega⟩)) (ev_var rfl)) (congrArg V.int ?_)) fun H3 e3 => ⟨_, rfl, ex.trans e3, e3 _ _ gq⟩
    rw [or_join8 _ _ (Nat.mod_lt _ (by decide))]
    omega
  · rintro q σ' H2 ⟨z, rfl, ex, gq⟩
    refine s_ret (v := .int (x : Int)) (Ev.is (ev_var rfl) (congrArg V.int ?_)) fun H3 e3 => k.go (ex.trans e3)
    rw [List.length_map, List.length_map, List.length_range, Nat.sub_self, Nat.mul_zero, Nat.pow_zero, Nat.div_one]
theorem ev_lnum {σ : L2.St} {H : Hp} {t1 t2 t3 : TE} {E : XK} {ds : List Int} {pos m x : Nat} (h1 : EvS K t1 σ H (ds.map V.int)) (h2 : Ev t2 σ H (.int (pos : Int))) (h3 : Ev t3 σ H (.int (m : Int))) (hm : m ≤ 4) (hN : HasN ds pos m x) (hx : x < 2 ^ (8 * m)) : Ev (tCall (sp_lnum K) [] E (tCons t1 (tCons t2 (tCons t3 tNil)))) σ H (.int (x : Int)) := fun H1 e Q q =>
  h1 H1 e _ fun p H2 e2 hp => h2 H2 (e.trans e2) _ fun H3 e3 => h3 H3 ((e.trans e2).trans e3) _ fun H4 e4 => ⟨p, ds, pos, m, x, rfl, ex_l (e3.trans e4) hp, hm, hN, hx, fun H5 e5 => q H5 (((e2.trans e3).trans e4).trans e5)⟩
theorem drop_step {ds a r : List Int} {p : Nat} (h : ds.drop p = a ++ r) : ds.drop (p + a.length) = r := by
  rw [← List.drop_drop, h, List.drop_left]
theorem low_step {ds r : List Int} {p c x : Nat} (h : ds.drop p = lowB (x : Int) c ++ r) (hx : x < 2 ^ (8 * c)) : HasN ds p c x ∧ ds.drop (p + c) = r := ⟨HasN.ofN h hx, by have := drop_step h; rwa [lowB_len] at this⟩

/-! ### draws, values told -/
theorem wi_ixV {s l : Addr} {σ : L2.St} {H : Hp} {ta tb : TE} {xs : List Int} {q : Int → Prop} (st : StAt H s) (ha : Ev ta σ H (.ref l)) (hls : l ≠ s) (hx : H l = some (.lst (xs.map V.int))) (hb : ∀ H1, Fr s H H1 → EvI s tb σ H1 q) (hq : ∀ z, q z → ∃ j : Nat, z = (j : Int) ∧ j < xs.length) : EvI s (tOp (rIxL K) ta tb) σ H (fun _ => True) := fun Q k =>
  ha H (Ex.refl H) _ fun H1 e1 => hb H1 (Fr.ex st e1) _ fun i H2 f2 hi => by
    obtain ⟨j, rfl, hj⟩ := hq i hi
    exact ⟨l, _, (j : Int), .int xs[j], rfl, rfl, sq_of (f2.l hls (e1 _ _ hx)), at_of (j := j) rfl (at_int (List.getElem?_eq_getElem hj)), k _ H2 ((Fr.ex st e1).trans f2) trivial⟩
section
variable {s : Addr} {σ : L2.St} {H : Hp} {t : TT} {p : Bool → Prop} {D : Ends} {tz tu tw : TS} {j : Nat} {x : Int} {R : Int → Prop}
theorem qw_bothI (h : EvTW s t σ H p) (h1 : p true → ∀ (D' : Ends) H1, Fr s H H1 → (∀ (y : Int) H2, R y → Fr s H H2 → D'.nx (σ.set j (some (.int y))) H2) → tu D' σ H1) (h2 : p false → ∀ (D' : Ends) H1, Fr s H H1 → (∀ (y : Int) H2, R y → Fr s H H2 → D'.nx (σ.set j (some (.int y))) H2) → tw D' σ H1) (k : ∀ (y : Int) H1, R y → Fr s H H1 → tz D (σ.set j (some (.int y))) H1) : tSeq (tIfS t tu tw) tz D σ H := h _ fun b H1 f hb => by
  cases b with
  | true => exact h1 hb { D with nx := tz D } H1 f fun y H2 r f2 => k y H2 r f2
  | false => exact h2 hb { D with nx := tz D } H1 f fun y H2 r f2 => k y H2 r f2
theorem qw_whenI (hσ : σ = σ.set j (some (.int x))) (h : EvTW s t σ H p) (h1 : p true → ∀ (D' : Ends) H1, Fr s H H1 → (∀ (y : Int) H2, R y → Fr s H H2 → D'.nx (σ.set j (some (.int y))) H2) → tu D' σ H1) (hx : p false → R x) (k : ∀ (y : Int) H1, R y → Fr s H H1 → tz D (σ.set j (some (.int y))) H1) : tSeq (tIfS t tu tNext) tz D σ H :=
  qw_bothI h h1 (fun hp D' H1 f kk => by
    have := kk x H1 (hx hp) f
    rw [← hσ] at this
    exact this) k
theorem sw_whenI {D : Ends} (hσ : σ = σ.set j (some (.int x))) (h : EvTW s t σ H p) (h1 : p true → ∀ H1, Fr s H H1 → tu D σ H1) (hx : p false → R x) (k : ∀ (y : Int) H1, R y → Fr s H H1 → D.nx (σ.set j (some (.int y))) H1) : tIfS t tu tNext D σ H :=
  sw_when h h1 fun hp H1 f => by
    have := k x H1 (hx hp) f
    rw [← hσ] at this
    exact this
end
def EvXW (s : Addr) (te : TE) (σ : L2.St) (H : Hp) (S : V → Hp → Prop) : Prop := ∀ Q : VK, (∀ v H2, Fr s H H2 → S v H2 → Q v H2) → te σ H Q
theorem xw_pair {s : Addr} {σ : L2.St} {H : Hp} {ta tb : TE} {S1 S2 : V → Hp → Prop} (ha : EvXW s ta σ H S1) (hu : ∀ v G G', Fr s G G' → S1 v G → S1 v G') (hu2 : ∀ v G G', Ex G G' → S2 v G → S2 v G') (hb : ∀ H1, Fr s H H1 → EvXW s tb σ H1 S2) : EvXW s (tTup (tCons ta (tCons tb tNil))) σ H (fun v G => ∃ (p : Addr) (v1 v2 : V), v = .ref p ∧ H p = none ∧ G p = some (.tup [v1, v2]) ∧ S1 v1 G ∧ S2 v2 G) := fun Q k =>
  ha _ fun v1 H1 f1 s1 => hb H1 f1 _ fun v2 H2 f2 s2 => ⟨Nat.le_of_ble_eq_true rfl, fun p hp => by
    have f3 := Fr.ex f2.2 (Ex.new (o := .tup [v1, v2]) hp)
    exact k (.ref p) _ ((f1.trans f2).trans f3) ⟨p, v1, v2, rfl, (f1.trans f2).fresh hp, upd_same, hu _ _ _ (f2.trans f3) s1, hu2 _ _ _ (Ex.new hp) s2⟩⟩

def ptOk (p : Nat) : Prop := p ≤ 1114111 ∧ ¬ (55296 ≤ p ∧ p ≤ 57343)

/-! ### bytes of comments -/
abbrev Ne := List Nat × List Nat
def neI (e : Ne) : En := (cs e.1, cs e.2)
def lowN (n c : Nat) : List Nat := (List.range c).map fun i => n / 2 ^ (8 * i) % 256
theorem lowN_len (n c : Nat) : (lowN n c).length = c := by unfold lowN; rw [List.length_map, List.length_range]
theorem lowB_cs (n c : Nat) : lowB (n : Int) c = cs (lowN n c) := by
  unfold lowB lowN cs
  rw [List.map_map]
  refine List.map_congr_left fun i _ => ?_
  show (n : Int) / 2 ^ (8 * i) % 256 = ((n / 2 ^ (8 * i) % 256 : Nat) : Int)
  rw [Int.natCast_emod, Int.natCast_ediv, Int.natCast_pow]
  rfl
def oneB (e : Ne) : List Nat := e.1 ++ (61 :: utfB e.2)
def entB (e : Ne) : List Nat := lowN (oneB e).length 4 ++ oneB e
def entsB (l : List Ne) : List Nat := l.flatMap entB
def cmB (vd : List Nat) (l : List Ne) : List Nat := (lowN (utfB vd).length 4 ++ (utfB vd ++ lowN l.length 4)) ++ entsB l
def NeOk (e : Ne) : Prop := (∀ c ∈ e.1, 32 ≤ c ∧ c ≤ 126 ∧ c ≠ 61) ∧ e.1 ≠ [] ∧ (∀ t ∈ e.2, ptOk t) ∧ e.1.length ≤ 1000 ∧ e.2.length ≤ 1000
def CmOk (vd : List Nat) (l : List Ne) : Prop := (∀ t ∈ vd, ptOk t) ∧ vd.length ≤ 1000 ∧ (∀ e ∈ l, NeOk e) ∧ l.length ≤ 1000 ∧ (cmB vd l).length ≤ 30000
theorem pt_lt {ts : List Nat} (h : ∀ t ∈ ts, ptOk t) : ∀ t ∈ ts, t < 2097152 := fun t ht => by have := (h t ht).1; omega
theorem entsB_snoc {l : List Ne} {i : Nat} {e : Ne} (h : l[i]? = some e) : entsB (l.take (i + 1)) = entsB (l.take i) ++ entB e := by
  unfold entsB
  rw [take_at h, List.flatMap_append]
  show _ ++ (_ ++ []) = _
  rw [List.append_nil]
theorem entsB_le {l : List Ne} (i : Nat) : (entsB (l.take i)).length ≤ (entsB l).length := by
  have : entsB l = entsB (l.take i) ++ entsB (l.drop i) := by unfold entsB; rw [← List.flatMap_append, List.take_append_drop]
  rw [this, List.length_append]
  omega
theorem entB_le {l : List Ne} {i : Nat} {e : Ne} (h : l[i]? = some e) : (entsB (l.take i)).length + (entB e).length ≤ (entsB l).length := by
  have := entsB_le (l := l) (i + 1)
  rw [entsB_snoc h, List.length_append] at this
  exact this
theorem cm_len (vd : List Nat) (l : List Ne) : (cmB vd l).length = 8 + (utfB vd).length + (entsB l).length := by
  unfold cmB
  rw [List.length_append, List.length_append, List.length_append, lowN_len, lowN_len]
  omega
theorem ne_at {l : List Ne} {i : Nat} {e : En} (h : (l.map neI)[i]? = some e) : ∃ e', l[i]? = some e' ∧ e = neI e' := by
  rw [List.getElem?_map] at h
  obtain ⟨e', h1, rfl⟩ := Option.map_eq_some_iff.mp h
  exact ⟨e', h1, rfl⟩
theorem map_cs2 (a b : List Nat) : (cs a).map V.int ++ (cs b).map V.int = (cs (a ++ b)).map V.int := by rw [cs_append, List.map_append]

-- K51A
/-! ### comments that may be wrong -/
def numN (ds : List Nat) (a : Nat) : Nat := ds.getD a 0 + 256 * ds.getD (a + 1) 0 + 65536 * ds.getD (a + 2) 0 + 16777216 * ds.getD (a + 3) 0
def rdR (ds : List Nat) (stop : Nat) : Nat → Nat → List Nat → Except Nat (List Nat)
  | 0, _, tx => .ok tx
  | f + 1, at_, tx => if at_ < stop then (match seqF ds at_ stop with | none => .error at_ | some (p, n) => rdR ds stop f (at_ + n) (tx ++ [p])) else .ok tx
def rdD : Except Nat (List Nat) → PyData
  | .error n => errT n
  | .ok tx => textD tx
theorem outR_rd {ds : List Nat} {stop : Nat} : ∀ f at_ tx, outR ds stop f at_ tx = rdD (rdR ds stop f at_ tx)
  | 0, _, _ => rfl
  | f + 1, at_, tx => by
    unfold outR rdR
    by_cases h : at_ < stop
    · rw [if_pos h, if_pos h]
      cases hs : seqF ds at_ stop with
      | none => rfl
      | some pn => exact outR_rd f _ _
    · rw [if_neg h, if_neg h]
      rfl
def rdT (ds : List Nat) (st stop : Nat) : Except Nat (List Nat) := rdR ds stop (stop - st) st []
theorem outT_rd (ds : List Nat) (st stop : Nat) : outT ds st stop = rdD (rdT ds st stop) := outR_rd _ _ _
theorem rd_err {r : Except Nat (List Nat)} {n : Nat} (h : rdD r = errT n) : r = .error n := by
  cases r with
  | error m =>
    unfold rdD errT at h
    injection h with h
    injection h with _ h
    injection h with _ h
    injection h with h _
    injection h with h
    rw [Int.ofNat.inj h]
  | ok tx =>
    unfold rdD errT textD at h
    injection h with h
    injection h with _ h
    injection h with _ h
    cases h
theorem cs_inj' {a b : List Nat} (h : (cs a).map PyData.int = (cs b).map PyData.int) : a = b := by
  unfold cs at h
  rw [List.map_map, List.map_map] at h
  exact (List.map_inj_right fun x y e => by injection e with e; exact Int.ofNat.inj e).mp h
theorem rd_ok {r : Except Nat (List Nat)} {tx : List Nat} (h : rdD r = textD tx) : r = .ok tx := by
  cases r with
  | error m =>
    unfold rdD errT textD at h
    injection h with h
    injection h with _ h
    injection h with _ h
    cases h
  | ok ty =>
    unfold rdD textD at h
    injection h with h
    injection h with _ h
    injection h with h _
    injection h with h
    rw [cs_inj' h]
theorem ptB_2 {d b : Nat} (hd : 192 ≤ d ∧ d < 224) (hb : 128 ≤ b ∧ b < 192) {p : Nat} (hp : p = (d - 192) * 64 + (b - 128)) (h : 128 ≤ p) : ptB p = [d, b] := by
  unfold ptB
  rw [if_neg (by omega), if_pos (by omega), show 192 + p / 64 = d by omega, show 128 + p % 64 = b by omega]
theorem ptB_3 {d b c : Nat} (hd : 224 ≤ d ∧ d < 240) (hb : 128 ≤ b ∧ b < 192) (hc : 128 ≤ c ∧ c < 192) {p : Nat} (hp : p = ((d - 224) * 64 + (b - 128)) * 64 + (c - 128)) (h : 2048 ≤ p) : ptB p = [d, b, c] := by
  unfold ptB
  rw [if_neg (by omega), if_neg (by omega), if_pos (by omega), show 224 + p / 4096 = d by omega, show 128 + p / 64 % 64 = b by omega, show 128 + p % 64 = c by omega]
theorem ptB_4 {d b c e : Nat} (hd : 240 ≤ d ∧ d < 248) (hb : 128 ≤ b ∧ b < 192) (hc : 128 ≤ c ∧ c < 192) (he : 128 ≤ e ∧ e < 192) {p : Nat} (hp : p = (((d - 240) * 64 + (b - 128)) * 64 + (c - 128)) * 64 + (e - 128)) (h : 65536 ≤ p) : ptB p = [d, b, c, e] := by
  unfold ptB
  rw [if_neg (by omega), if_neg (by omega), if_neg (by omega), show 240 + p / 262144 = d by omega, show 128 + p / 4096 % 64 = b by omega, show 128 + p / 64 % 64 = c by omega, show 128 + p % 64 = e by omega]
theorem okB_iff {b : Nat} (h : okB b = true) : 128 ≤ b ∧ b < 192 := by
  unfold okB at h
  rwa [Bool.and_eq_true, decide_eq_true_iff, decide_eq_true_iff] at h
theorem badP_iff {n p : Nat} (h : badP n p = false) : minN n ≤ p ∧ p ≤ 1114111 ∧ ¬ (55296 ≤ p ∧ p < 57344) := by
  unfold badP at h
  rw [Bool.or_eq_false_iff, Bool.or_eq_false_iff, Bool.and_eq_false_iff, decide_eq_false_iff_not, decide_eq_false_iff_not, decide_eq_false_iff_not, decide_eq_false_iff_not] at h
  omega
theorem len2 {l : List Nat} (h : l.length = 2) : ∃ b c, l = [b, c] := by
  match l, h with
  | [b, c], _ => exact ⟨b, c, rfl⟩
theorem len3 {l : List Nat} (h : l.length = 3) : ∃ b c e, l = [b, c, e] := by
  match l, h with
  | [b, c, e], _ => exact ⟨b, c, e, rfl⟩
theorem seqP_rt {d n : Nat} {xs : List Nat} {p : Nat} (hn : n = cntT d) (hd : d < 256) (h1 : 1 ≤ n) (hx : xs.length = n - 1) (h : seqP d n xs = some p) : ptOk p ∧ ptB p = d :: xs := by
  rw [cntT_eq] at hn
  unfold seqP at h
  by_cases e1 : n = 1
  · rw [if_pos e1] at h
    cases h
    have hd128 : d < 128 := by
      split at hn
      · assumption
      split at hn
      · omega
      split at hn
      · omega
      split at hn <;> omega
    have hx0 : xs = [] := List.eq_nil_of_length_eq_zero (by omega)
    rw [hx0]
    exact ⟨by unfold ptOk; omega, by unfold ptB; rw [if_pos hd128]⟩
  rw [if_neg e1] at h
  by_cases ha : xs.all okB = true
  · rw [if_pos ha] at h
    by_cases hb : badP n (foldP (headV d n) xs) = true
    · rw [if_pos hb] at h
      cases h
    · rw [if_neg hb] at h
      have h : foldP (headV d n) xs = p := Option.some.inj h
      have hb := badP_iff (Bool.eq_false_iff.mpr hb)
      rw [h] at hb
      have hall := List.all_eq_true.mp ha
      have hok : ptOk p := by unfold ptOk; omega
      refine ⟨hok, ?_⟩
      have l2 : leastN 2 = 192 := rfl
      have l3 : leastN 3 = 224 := rfl
      have l4 : leastN 4 = 240 := rfl
      have m2 : minN 2 = 128 := rfl
      have m3 : minN 3 = 2048 := rfl
      have m4 : minN 4 = 65536 := rfl
      split at hn
      · omega
      split at hn
      · rename_i hr
        subst hn
        obtain ⟨b, rfl⟩ := List.length_eq_one_iff.mp hx
        exact ptB_2 hr (okB_iff (hall b (List.mem_cons_self ..))) h.symm (by omega)
      split at hn
      · rename_i hr
        subst hn
        obtain ⟨b, c, rfl⟩ := len2 hx
        exact ptB_3 hr (okB_iff (hall b (List.mem_cons_self ..))) (okB_iff (hall c (List.mem_cons_of_mem _ (List.mem_cons_self ..)))) h.symm (by omega)
      split at hn
      · rename_i hr
        subst hn
        obtain ⟨b, c, e, rfl⟩ := len3 hx
        exact ptB_4 hr (okB_iff (hall b (List.mem_cons_self ..))) (okB_iff (hall c (List.mem_cons_of_mem _ (List.mem_cons_self ..)))) (okB_iff (hall e (List.mem_cons_of_mem _ (List.mem_cons_of_mem _ (List.mem_cons_self ..))))) h.symm (by omega)
      omega
  · rw [if_neg ha] at h
    cases h
theorem drop_at {ds : List Nat} {a : Nat} (h : a < ds.length) : ds.drop a = ds.getD a 0 :: ds.drop (a + 1) := by
  rw [List.drop_eq_getElem_cons h, List.getD_eq_getElem?_getD, List.getElem?_eq_getElem h]
  rfl
theorem getD_lt {ds : List Nat} (hb : ∀ d ∈ ds, d < 256) (a : Nat) : ds.getD a 0 < 256 := by
  rw [List.getD_eq_getElem?_getD]
  cases h : ds[a]? with
  | none => show 0 < 256; decide
  | some x => exact hb x (List.mem_of_getElem? h)
theorem seqF_rt {ds : List Nat} {at_ stop p n : Nat} (hb : ∀ d ∈ ds, d < 256) (hat : at_ < stop) (hs : stop ≤ ds.length) (h : seqF ds at_ stop = some (p, n)) : 1 ≤ n ∧ at_ + n ≤ stop ∧ ptOk p ∧ ptB p = (ds.drop at_).take n := by
  unfold seqF at h
  have hd256 := getD_lt hb at_
  have hdr := drop_at (ds := ds) (a := at_) (by omega)
  generalize ds.getD at_ 0 = d at *
  by_cases hc : cntT d = 0 ∨ stop < at_ + cntT d
  · rw [if_pos hc] at h
    cases h
  · rw [if_neg hc] at h
    obtain ⟨p', hp', heq⟩ := Option.map_eq_some_iff.mp h
    injection heq with h1 h2
    subst h1 h2
    obtain ⟨k1, k2⟩ := seqP_rt rfl hd256 (by omega) (by rw [List.length_take, List.length_drop]; omega) hp'
    refine ⟨by omega, by omega, k1, ?_⟩
    rw [k2, hdr]
    obtain ⟨m, hm⟩ : ∃ m, cntT d = m + 1 := ⟨cntT d - 1, by omega⟩
    rw [hm, List.take_succ_cons, Nat.add_sub_cancel]
theorem rdR_rt {ds : List Nat} {stop : Nat} (hb : ∀ d ∈ ds, d < 256) (hs : stop ≤ ds.length) : ∀ (f at_ : Nat) (tx ty : List Nat), at_ ≤ stop → stop - at_ ≤ f → rdR ds stop f at_ tx = .ok ty → ∃ tz, ty = tx ++ tz ∧ utfB tz = (ds.drop at_).take (stop - at_) ∧ ∀ t ∈ tz, ptOk t
  | 0, at_, tx, ty, h1, h2, h => by
    have h : Except.ok tx = Except.ok ty := h
    injection h with h
    exact ⟨[], by rw [h, List.append_nil], by rw [show stop - at_ = 0 by omega, List.take_zero]; rfl, fun t ht => by cases ht⟩
  | f + 1, at_, tx, ty, h1, h2, h => by
    unfold rdR at h
    by_cases hlt : at_ < stop
    · rw [if_pos hlt] at h
      cases hq : seqF ds at_ stop with
      | none =>
        rw [hq] at h
        cases h
      | some pn =>
        obtain ⟨p, n⟩ := pn
        rw [hq] at h
        obtain ⟨k1, k2, k3, k4⟩ := seqF_rt hb hlt hs hq
        obtain ⟨tz, h3, h4, h5⟩ := rdR_rt hb hs f (at_ + n) (tx ++ [p]) ty k2 (by omega) h
        refine ⟨p :: tz, by rw [h3, List.append_assoc]; rfl, ?_, fun t ht => ?_⟩
        · show ptB p ++ utfB tz = _
          rw [k4, h4, show stop - at_ = n + (stop - (at_ + n)) by omega, List.take_add, List.drop_drop]
        · rcases List.mem_cons.mp ht with rfl | ht
          · exact k3
          · exact h5 t ht
    · rw [if_neg hlt] at h
      injection h with h
      exact ⟨[], by rw [h, List.append_nil], by rw [show stop - at_ = 0 by omega, List.take_zero]; rfl, fun t ht => by cases ht⟩
theorem rdT_rt {ds : List Nat} {st stop : Nat} {tx : List Nat} (hb : ∀ d ∈ ds, d < 256) (hs : stop ≤ ds.length) (hle : st ≤ stop) (h : rdT ds st stop = .ok tx) : utfB tx = (ds.drop st).take (stop - st) ∧ ∀ t ∈ tx, ptOk t := by
  obtain ⟨tz, h1, h2, h3⟩ := rdR_rt hb hs _ st [] tx hle (Nat.le_refl _) h
  rw [List.nil_append] at h1
  subst h1
  exact ⟨h2, h3⟩
theorem lowN_num {ds : List Nat} (hb : ∀ d ∈ ds, d < 256) {a : Nat} (h : a + 4 ≤ ds.length) : lowN (numN ds a) 4 = (ds.drop a).take 4 ∧ numN ds a < 4294967296 := by
  have h0 := getD_lt hb a
  have h1 := getD_lt hb (a + 1)
  have h2 := getD_lt hb (a + 2)
  have h3 := getD_lt hb (a + 3)
  rw [drop_at (a := a) (by omega), drop_at (a := a + 1) (by omega), drop_at (a := a + 2) (by omega), drop_at (a := a + 3) (by omega)]
  unfold numN
  show [_ / 1 % 256, _ / 256 % 256, _ / 65536 % 256, _ / 16777216 % 256] = [_, _, _, _] ∧ _
  generalize ds.getD a 0 = x0 at *
  generalize ds.getD (a + 1) 0 = x1 at *
  generalize ds.getD (a + 2) 0 = x2 at *
  generalize ds.getD (a + 3) 0 = x3 at *
  generalize hN : x0 + 256 * x1 + 65536 * x2 + 16777216 * x3 = N
  refine ⟨?_, by omega⟩
  rw [show N / 1 % 256 = x0 by omega, show N / 256 % 256 = x1 by omega, show N / 65536 % 256 = x2 by omega, show N / 16777216 % 256 = x3 by omega]
/-! entries -/
abbrev Flt := Bool × Nat
def lenF (ds : List Nat) (a stop : Nat) : Option Nat := if stop < a + 4 ∨ stop < a + 4 + numN ds a then none else some (numN ds a)
def badC (c : Nat) : Bool := decide (c < 32) || decide (126 < c)
def ctN (ds : List Nat) (a e : Nat) : List Nat := (ds.drop (a + 4)).take (e - (a + 4))
def entR (ds : List Nat) (a e : Nat) : Except Flt Ne :=
  if (ctN ds a e).idxOf 61 = (ctN ds a e).length ∨ (ctN ds a e).idxOf 61 = 0 then .error (true, a)
  else if ((ctN ds a e).take ((ctN ds a e).idxOf 61)).findIdx badC < (ctN ds a e).idxOf 61 then .error (false, a + 4 + ((ctN ds a e).take ((ctN ds a e).idxOf 61)).findIdx badC)
  else match rdT ds (a + 4 + (ctN ds a e).idxOf 61 + 1) e with
    | .error n => .error (false, n)
    | .ok tx => .ok ((ctN ds a e).take ((ctN ds a e).idxOf 61), tx)
def entsR (ds : List Nat) (stop : Nat) : Nat → Nat → List Ne → Except Flt (Nat × List Ne)
  | 0, a, l => .ok (a, l)
  | n + 1, a, l => match lenF ds a stop with
    | none => .error (true, a)
    | some len => match entR ds a (a + 4 + len) with
      | .error f => .error f
      | .ok e => entsR ds stop n (a + 4 + len) (l ++ [e])
def cmR (ds : List Nat) (st stop : Nat) : Except Flt (List Nat × List Ne) := match lenF ds st stop with
  | none => .error (true, st)
  | some len => match rdT ds (st + 4) (st + 4 + len) with
    | .error n => .error (false, n)
    | .ok vd => if stop < st + 4 + len + 4 then .error (true, st + 4 + len) else match entsR ds stop (numN ds (st + 4 + len)) (st + 4 + len + 4) [] with
      | .error f => .error f
      | .ok (a, l) => if a < stop then .error (true, a) else .ok (vd, l)
theorem lenF_some {ds : List Nat} {a stop n : Nat} (h : lenF ds a stop = some n) : n = numN ds a ∧ a + 4 + n ≤ stop := by
  unfold lenF at h
  split at h
  · cases h
  · cases h
    exact ⟨rfl, by omega⟩
theorem idx_split {l : List Nat} {i : Nat} (h : l.idxOf 61 = i) (hi : i < l.length) : l = l.take i ++ 61 :: l.drop (i + 1) := by
  have h1 : l[i] = 61 := by
    have := List.getElem_idxOf (x := 61) (xs := l) (by rw [h]; exact hi)
    simpa only [h] using this
  conv => lhs; rw [← List.take_append_drop i l, List.drop_eq_getElem_cons hi, h1]
theorem mem_idx {l : List Nat} {x i : Nat} (h : l.idxOf 61 = i) (hx : x ∈ l.take i) : x ≠ 61 := by
  rintro rfl
  obtain ⟨j, hj, hjx⟩ := List.mem_iff_getElem.mp hx
  rw [List.length_take] at hj
  rw [List.getElem_take] at hjx
  have := List.not_of_lt_findIdx (p := (· == 61)) (xs := l) (i := j) (by show j < l.idxOf 61; omega)
  rw [hjx] at this
  exact absurd this (by decide)
theorem entR_rt {ds : List Nat} {a e : Nat} {u : Ne} (hb : ∀ d ∈ ds, d < 256) (hl : ds.length ≤ 1000) (h1 : a + 4 ≤ e) (h2 : e ≤ ds.length) (h : entR ds a e = .ok u) : oneB u = ctN ds a e ∧ NeOk u := by
  unfold entR at h
  have hcl : (ctN ds a e).length = e - (a + 4) := by unfold ctN; rw [List.length_take, List.length_drop]; omega
  have hle : (ctN ds a e).idxOf 61 ≤ (ctN ds a e).length := List.idxOf_le_length
  obtain ⟨i, hi⟩ : ∃ i, (ctN ds a e).idxOf 61 = i := ⟨_, rfl⟩
  rw [hi] at h hle
  split at h
  · cases h
  split at h
  · cases h
  rename_i c1 c2
  cases hr : rdT ds (a + 4 + i + 1) e with
  | error n =>
    rw [hr] at h
    cases h
  | ok tx =>
    rw [hr] at h
    injection h with h
    subst h
    obtain ⟨r1, r2⟩ := rdT_rt hb h2 (by omega) hr
    have hsp := idx_split hi (by omega)
    have hdr : (ctN ds a e).drop (i + 1) = utfB tx := by
      rw [r1]
      unfold ctN
      rw [List.drop_take, List.drop_drop]
      congr 1
      omega
    have hul := utfB_len tx
    have hrl : (utfB tx).length ≤ 1000 := by rw [← hdr, List.length_drop]; omega
    refine ⟨by unfold oneB; rw [← hdr]; exact hsp.symm, fun c hc => ?_, ?_, r2, by show (List.take i _).length ≤ 1000; rw [List.length_take]; omega, by show tx.length ≤ 1000; omega⟩
    · have h61 := mem_idx hi hc
      obtain ⟨j, hj, hjx⟩ := List.mem_iff_getElem.mp hc
      have hj2 : j < i := by
        have hj : j < (List.take i (ctN ds a e)).length := hj
        rw [List.length_take] at hj
        omega
      have hnb := List.not_of_lt_findIdx (p := badC) (xs := (ctN ds a e).take i) (i := j) (by omega)
      have hjx : ((ctN ds a e).take i)[j] = c := hjx
      rw [hjx] at hnb
      unfold badC at hnb
      rw [Bool.or_eq_false_iff, decide_eq_false_iff_not, decide_eq_false_iff_not] at hnb
      omega
    · intro h
      have h : (List.take i (ctN ds a e)).length = 0 := by have h : List.take i (ctN ds a e) = [] := h; rw [h]; rfl
      rw [List.length_take] at h
      omega
theorem entsR_rt {ds : List Nat} {stop : Nat} (hb : ∀ d ∈ ds, d < 256) (hl : ds.length ≤ 1000) (hs : stop ≤ ds.length) : ∀ (n a a' : Nat) (l l' : List Ne), a ≤ stop → entsR ds stop n a l = .ok (a', l') → ∃ l2, l' = l ++ l2 ∧ l2.length = n ∧ entsB l2 = (ds.drop a).take (a' - a) ∧ a + 4 * n ≤ a' ∧ a' ≤ stop ∧ ∀ e ∈ l2, NeOk e
  | 0, a, a', l, l', ha, h => by
    unfold entsR at h
    injection h with h
    injection h with h1 h2
    exact ⟨[], by rw [← h2, List.append_nil], rfl, by rw [h1, Nat.sub_self, List.take_zero]; rfl, by omega, by omega, fun e he => by cases he⟩
  | n + 1, a, a', l, l', ha, h => by
    unfold entsR at h
    cases hn : lenF ds a stop with
    | none =>
      rw [hn] at h
      cases h
    | some len =>
      rw [hn] at h
      obtain ⟨k1, k2⟩ := lenF_some hn
      cases he : entR ds a (a + 4 + len) with
      | error f =>
        simp only [he] at h
        cases h
      | ok e =>
        simp only [he] at h
        obtain ⟨o1, o2⟩ := entR_rt hb hl (by omega) (by omega) he
        obtain ⟨l2, q1, q2, q3, q4, q5, q6⟩ := entsR_rt hb hl hs n (a + 4 + len) a' (l ++ [e]) l' k2 h
        obtain ⟨w1, w2⟩ := lowN_num hb (a := a) (by omega)
        have hol : (oneB e).length = len := by rw [o1]; unfold ctN; rw [List.length_take, List.length_drop]; omega
        refine ⟨e :: l2, by rw [q1, List.append_assoc]; rfl, by rw [List.length_cons, q2], ?_, by omega, q5, fun x hx => ?_⟩
        · show entB e ++ entsB l2 = _
          unfold entB
          rw [q3, hol, k1, w1, o1]
          unfold ctN
          rw [show a' - a = 4 + (numN ds a + (a' - (a + 4 + numN ds a))) by omega, List.take_add, List.take_add, List.drop_drop, List.drop_drop, show a + 4 + len - (a + 4) = numN ds a by omega, List.append_assoc]
        · rcases List.mem_cons.mp hx with rfl | hx
          · exact o2
          · exact q6 x hx
theorem cmR_rt {ds : List Nat} {st stop : Nat} {vd : List Nat} {l : List Ne} (hb : ∀ d ∈ ds, d < 256) (hl : ds.length ≤ 1000) (hs : stop ≤ ds.length) (h : cmR ds st stop = .ok (vd, l)) : cmB vd l = (ds.drop st).take (stop - st) ∧ CmOk vd l := by
  unfold cmR at h
  cases hn : lenF ds st stop with
  | none =>
    rw [hn] at h
    cases h
  | some len =>
    simp only [hn] at h
    obtain ⟨k1, k2⟩ := lenF_some hn
    cases hr : rdT ds (st + 4) (st + 4 + len) with
    | error n =>
      simp only [hr] at h
      cases h
    | ok v =>
      simp only [hr] at h
      obtain ⟨r1, r2⟩ := rdT_rt hb (by omega) (by omega) hr
      by_cases hc : stop < st + 4 + len + 4
      · rw [if_pos hc] at h
        cases h
      rw [if_neg hc] at h
      cases he : entsR ds stop (numN ds (st + 4 + len)) (st + 4 + len + 4) [] with
      | error f =>
        simp only [he] at h
        cases h
      | ok al =>
        obtain ⟨a, l'⟩ := al
        simp only [he] at h
        by_cases ha : a < stop
        · rw [if_pos ha] at h
          cases h
        rw [if_neg ha] at h
        injection h with h
        injection h with h1 h2
        subst h1 h2
        obtain ⟨l2, q1, q2, q3, q4, q5, q6⟩ := entsR_rt hb hl hs _ _ _ _ _ (by omega) he
        rw [List.nil_append] at q1
        subst q1
        obtain ⟨w1, w2⟩ := lowN_num hb (a := st) (by omega)
        obtain ⟨w3, w4⟩ := lowN_num hb (a := st + 4 + len) (by omega)
        have hul := utfB_len v
        have hvl : (utfB v).length = len := by rw [r1, List.length_take, List.length_drop]; omega
        have hcm : cmB v l' = (ds.drop st).take (stop - st) := by
          unfold cmB
          rw [hvl, q2, q3, r1, w3]
          have hs1 : stop - st = 4 + (len + (4 + (a - (st + 4 + len + 4)))) := by omega
          rw [hs1, List.take_add, List.take_add, List.take_add, List.drop_drop, List.drop_drop, List.drop_drop, show st + 4 + len - (st + 4) = len by omega, k1, w1]
          simp only [List.append_assoc]
        exact ⟨hcm, r2, by omega, q6, by omega, by rw [hcm, List.length_take, List.length_drop]; omega⟩

-- K51B
/-! ### reading comments that may be wrong -/
theorem RdErr.mono {E : XK} {C : Addr} {nm : Str} {n : Nat} {H H1 : Hp} (h : RdErr E C nm n H) (e : Ex H H1) : RdErr E C nm n H1 := fun H' dd e' he => h H' dd (e.trans e') he
theorem q_asgOpX {σ : L2.St} {H : Hp} {ta : TE} {t : TA} {sp : Sp} {dvs args : List V} {E : L2.St → XK} {g : Int → Int → V} {x : Int} {i : Nat} {tz : TS} {D : Ends} (ha : Ev ta σ H (.int x)) (h : EvA t σ H args) (k : ∀ H1, Ex H H1 → sp (args ++ dvs) H1 (fun y H2 => rI0 g (.int x) y H2 fun z H3 => tz D (σ.set i (some z)) H3) (E σ)) : tSeq (tAsg (tOp (rI0 g) ta (tCallX sp dvs E t)) (gName i)) tz D σ H :=
  ha H (Ex.refl _) _ fun H1 e1 => h H1 e1 _ fun H2 e2 => k H2 (e1.trans e2)
theorem q_asgX1 {σ : L2.St} {H : Hp} {t : TA} {sp : Sp} {dvs args : List V} {E : L2.St → XK} {i : Nat} {tz : TS} {D : Ends} (h : EvA t σ H args) (k : ∀ H1, Ex H H1 → sp (args ++ dvs) H1 (fun z H3 => tz D (σ.set i (some z)) H3) (E σ)) : tSeq (tAsg (tCallX sp dvs E t) (gName i)) tz D σ H := h H (Ex.refl _) _ fun H1 e1 => k H1 e1
theorem s_retLX {σ : L2.St} {H : Hp} {t1 : TE} {ta : TA} {sp : Sp} {dvs args : List V} {E : L2.St → XK} {xs : List V} {D : Ends} (h1 : EvL t1 σ H xs) (h2 : EvA ta σ H args) (k : ∀ p H1, H p = none → Ex H H1 → H1 p = some (.lst xs) → sp (args ++ dvs) H1 (fun x H2 => [V.ref p, x].length ≤ sizeLine ∧ ∀ t, H2 t = none → D.rt (.ref t) (upd H2 t (.tup [.ref p, x]))) (E σ)) : tRet (tTup (tCons t1 (tCons (tCallX sp dvs E ta) tNil))) D σ H :=
  h1 H (Ex.refl _) _ fun p H1 hp e1 g1 => h2 H1 e1 _ fun H2 e2 => k p H2 hp (e1.trans e2) (e2 _ _ g1)
theorem has_num {ds : List Nat} (hb : ∀ d ∈ ds, d < 256) {a : Nat} (h : a + 4 ≤ ds.length) : HasN (cs ds) a 4 (numN ds a) := HasN.ofN (r := cs (ds.drop (a + 4))) (by rw [lowB_cs, (lowN_num hb h).1, cs_drop, ← cs_append, ← List.drop_drop, List.take_append_drop]) (lowN_num hb h).2
def sp_chkx (CF : Addr) : Sp := fun vs H Q E => ∃ a b c : Nat, vs = [.int (a : Int), .int (b : Int), .int (c : Int)] ∧ (c < a + b → RdErr E CF "InvalidForm" a H) ∧ (a + b ≤ c → RetV .non H Q)
theorem ok_check_inside (T : TX K mg) : FnOk P w K mg base (L2N.CX P w) 3 T.a_check_inside T.d_check_inside ["place", "count", "stop"] (sp_chkx T.C_InvalidForm) := by
  refine T.F_check_inside.okN sc_check_inside (fun vs H Q E h => by obtain ⟨a, b, c, rfl, _⟩ := h; rfl) (fun cdv A outer s0 H vs Q E hr h => ?_)
  obtain ⟨a, b, c, rfl, kE, k⟩ := h
  refine ⟨_, (pss_one (ps_if (pt_cmpR op_gt (pe_op op_add (pv 0) (pv 1)) (pv 2) (nomark _)) (pss_one (L2N.ps_raise rfl (L2N.takes_of rfl rfl rfl rfl) (pmkN_oex T.x_InvalidForm.ox T.x_InvalidForm.iC T.ti_MonochordError_init (ok_MonochordError_init T) (hr.mono (by decide)) T.b_MonochordError_init .nil pass0 (by rfl) T.g_InvalidForm (pa_cons (pv 0) pa_nil)))) pss_nil)), ?_⟩
  refine s_when (b := decide (c < a + b)) (et_is (et_test (ev_I0 (g := fun i j => .bl (decide (j < i))) (ev_I0 (g := fun i j => .int (i + j)) (ev_var rfl) (ev_var rfl)) (ev_var rfl))) (decide_eq_decide.mpr (by omega))) (fun h H1 e1 => ?_) fun h H1 e1 => ?_
  · exact mk_err T.x_InvalidForm (ea_cons (ev_var rfl) ea_nil) fun H5 dd hdd e5 he => kE (of_decide_eq_true h) H5 dd (e1.trans e5) he
  · exact (k (by have := of_decide_eq_false h; omega)).go e1
theorem q_dropX {σ : L2.St} {H : Hp} {t : TA} {sp : Sp} {dvs args : List V} {E : L2.St → XK} {tz : TS} {D : Ends} (h : EvA t σ H args) (k : ∀ H1, Ex H H1 → sp (args ++ dvs) H1 (fun _ H3 => tz D σ H3) (E σ)) : tSeq (tDrop (tCallX sp dvs E t)) tz D σ H := h H (Ex.refl _) _ fun H1 e1 => k H1 e1
theorem q_chkX {t1 t2 t3 : TE} {σ : L2.St} {H : Hp} {E : L2.St → XK} {D : Ends} {tz : TS} {CF : Addr} {a b c : Nat} (h1 : Ev t1 σ H (.int (a : Int))) (h2 : Ev t2 σ H (.int (b : Int))) (h3 : Ev t3 σ H (.int (c : Int))) (kE : c < a + b → RdErr (E σ) CF "InvalidForm" a H) (k : a + b ≤ c → ∀ H1, Ex H H1 → tz D σ H1) : tSeq (tDrop (tCallX (sp_chkx CF) [] E (tCons t1 (tCons t2 (tCons t3 tNil))))) tz D σ H :=
  q_dropX (ea_cons h1 (ea_cons h2 (ea_cons h3 ea_nil))) fun H1 e1 => ⟨a, b, c, rfl, fun h => (kE h).mono e1, fun h H2 e2 => k h H2 (e1.trans e2)⟩
def sp_rlx (K : PySem.W.Frag) (CF : Addr) : Sp := fun vs H Q E => ∃ (p : Addr) (ds : List Nat) (a st : Nat), vs = [.ref p, .int (a : Int), .int (st : Int)] ∧ SqL K H p ((cs ds).map V.int) ∧ (∀ d ∈ ds, d < 256) ∧ st ≤ ds.length ∧ (lenF ds a st = none → RdErr E CF "InvalidForm" a H) ∧ (∀ n, lenF ds a st = some n → RetV (.int (n : Int)) H Q)
theorem ok_read_length (T : TX K mg) : FnOk P w K mg base (L2N.CX P w) 4 T.a_read_length T.d_read_length ["data", "place", "stop"] (sp_rlx K T.C_InvalidForm) := by
  refine T.F_read_length.okN sc_read_length (fun vs H Q E h => by obtain ⟨p, ds, a, st, rfl, _⟩ := h; rfl) (fun cdv A outer s0 H vs Q E hr h => ?_)
  obtain ⟨p, ds, a, st, rfl, hS, hb, hs, kE, k⟩ := h
  refine ⟨_, (pss_cons (ps_expr (pe_callX (ok_check_inside T) (hr.mono (by decide)) (by rfl) T.g_check_inside T.F_check_inside.kp T.b_check_inside .nil (fun σ => L2N.passAt (L2N.takes_of rfl rfl rfl rfl) σ) (pa_cons (pv 1) (pa_cons pe_int (pa_cons (pv 2) pa_nil)))))
      (pss_cons (ps_set (i := 3) sc_read_length.nd rfl (Or.inl rfl) (pe_call (ok_little_number T) (hr.mono (by decide)) (by rfl) T.g_little_number T.F_little_number.kp T.b_little_number .nil pass0 (pa_cons (pv 0) (pa_cons (pv 1) (pa_cons pe_int pa_nil)))))
      (pss_cons (ps_if (pt_cmpR op_gt (pv 3) (pe_op op_sub (pe_op op_sub (pv 2) (pv 1)) pe_int) (nomark _)) (pss_one (L2N.ps_raise rfl (L2N.takes_of rfl rfl rfl rfl) (pmkN_oex T.x_InvalidForm.ox T.x_InvalidForm.iC T.ti_MonochordError_init (ok_MonochordError_init T) (hr.mono (by decide)) T.b_MonochordError_init .nil pass0 (by rfl) T.g_InvalidForm (pa_cons (pv 1) pa_nil)))) pss_nil)
      (pss_one (ps_ret (pv 3)))))), ?_⟩
  unfold lenF at kE k
  refine q_chkX (b := 4) (ev_var rfl) ev_c (ev_var rfl) (fun h => kE (if_pos (.inl h))) fun h H1 e1 => ?_
  obtain ⟨w1, w2⟩ := lowN_num hb (a := a) (by omega)
  refine q_asg (v := .int (numN ds a : Int)) (ev_lnum (m := 4) (Ev.s (ev_var rfl) (ex_l e1 hS)) (ev_var rfl) ev_c (by decide) (has_num hb (by omega)) w2) fun H2 e2 => ?_
  refine q_when (b := decide (st < a + 4 + numN ds a)) (et_is (et_test (ev_I0 (g := fun i j => .bl (decide (j < i))) (ev_var rfl) (ev_I0 (g := fun i j => .int (i - j)) (ev_I0 (g := fun i j => .int (i - j)) (ev_var rfl) (ev_var rfl)) ev_c))) (decide_eq_decide.mpr (by omega))) (fun hc H3 e3 => ?_) fun hc H3 e3 => ?_
  · exact mk_err T.x_InvalidForm (ea_cons (ev_var rfl) ea_nil) fun H5 dd hdd e5 he => kE (if_pos (.inr (of_decide_eq_true hc))) H5 dd (e1.trans (e2.trans (e3.trans e5))) he
  · have hc := of_decide_eq_false hc
    exact s_ret (ev_var rfl) fun H4 e4 => (k _ (if_neg (by omega))).go (e1.trans (e2.trans (e3.trans e4)))
theorem ev_notinB {σ : L2.St} {H : Hp} {ta tb : TE} {x : Int} {p : Addr} {xs : List Int} (ha : Ev ta σ H (.int x)) (hb : Ev tb σ H (.ref p)) (g : H p = some (.lst (xs.map V.int))) : Ev (tOp (rIn K true) ta tb) σ H (.bl (decide (x ∉ xs))) := fun H1 e Q q =>
  ha H1 e _ fun H2 e2 => hb H2 (e.trans e2) _ fun H3 e3 => ⟨p, xs.map V.int, rfl, .inl (sq_of (((e.trans e2).trans e3) _ _ g)), rfl, by simp [flatV], by
    have : inV (.int x) (xs.map V.int) = decide (x ∈ xs) := by
      unfold inV
      rw [Bool.eq_iff_iff, List.any_map, List.any_eq_true, decide_eq_true_iff]
      constructor
      · rintro ⟨y, hy, h⟩
        have h : eqV (.int y) (.int x) = true := h
        have : y = x := by simpa [eqV] using h
        rw [← this]; exact hy
      · exact fun h => ⟨x, h, by simp [eqV]⟩
    rw [if_pos rfl, this, ← decide_not]
    exact q H3 (e2.trans e3)⟩
theorem ev_index {σ : L2.St} {H : Hp} {ta tb : TE} {x : Int} {p : Addr} {xs : List Int} {j : Nat} (ha : Ev ta σ H (.ref p)) (g : H p = some (.lst (xs.map V.int))) (hb : Ev tb σ H (.int x)) (hj : xs[j]? = some x) (hne : ∀ m, m < j → xs[m]? ≠ some x) : Ev (tBM K "list" (rIndex K) ta (tCons tb tNil)) σ H (.int (j : Int)) := fun H1 e Q q =>
  ha H1 e _ fun H2 e2 => ⟨.inl ⟨rfl, _, sq_of ((e.trans e2) _ _ g)⟩, hb H2 (e.trans e2) _ fun H3 e3 => ⟨p, xs.map V.int, .int x, j, .int x, rfl, rfl, sq_of (((e.trans e2).trans e3) _ _ g), rfl, by simp [flatV], at_int hj, by simp [eqV], fun m z hm hz => by
    obtain ⟨n, hn, _, rfl⟩ := int_at hz
    have := hne m hm
    show (n == x) = false
    rw [beq_eq_false_iff_ne]
    rintro rfl
    exact this hn, q H3 (e2.trans e3)⟩⟩
theorem mem_cs {x : Nat} {l : List Nat} : (x : Int) ∈ cs l ↔ x ∈ l := by
  unfold cs
  rw [List.mem_map]
  constructor
  · rintro ⟨y, hy, h⟩
    rw [← Int.ofNat.inj h]
    exact hy
  · exact fun h => ⟨x, h, rfl⟩
theorem idx_len {l : List Nat} : l.idxOf 61 = l.length ↔ 61 ∉ l := by
  constructor
  · intro h hm
    have := List.idxOf_lt_length_of_mem hm
    omega
  · intro h
    have h1 : l.idxOf 61 ≤ l.length := List.idxOf_le_length
    by_cases h2 : l.idxOf 61 < l.length
    · exact absurd (List.idxOf_lt_length_iff.mp h2) h
    · omega
def sp_rex (K : PySem.W.Frag) (CF CT : Addr) : Sp := fun vs H Q E => ∃ (p : Addr) (ds : List Nat) (a e : Nat), vs = [.ref p, .int (a : Int), .int (e : Int)] ∧ SqL K H p ((cs ds).map V.int) ∧ (∀ d ∈ ds, d < 256) ∧ ds.length ≤ 1000 ∧ a + 4 ≤ e ∧ e ≤ ds.length ∧ (∀ n, entR ds a e = .error (true, n) → RdErr E CF "InvalidForm" n H) ∧ (∀ n, entR ds a e = .error (false, n) → RdErr E CT "InvalidText" n H) ∧ ∀ u, entR ds a e = .ok u → ∀ T0 pn pv H', H T0 = none → H pn = none → H pv = none → Ex H H' → H' T0 = some (.tup [.ref pn, .ref pv]) → H' pn = some (.lst ((cs u.1).map V.int)) → H' pv = some (.lst ((cs u.2).map V.int)) → Q (.ref T0) H'
theorem ok_read_entry (T : TX K mg) : FnOk P w K mg base (L2N.CX P w) 5 T.a_read_entry T.d_read_entry ["data", "place", "stop"] (sp_rex K T.C_InvalidForm T.C_InvalidText) := by
  refine T.F_read_entry.okN sc_read_entry (fun vs H Q E h => by obtain ⟨p, ds, a, e, rfl, _⟩ := h; rfl) (fun cdv A outer s0 H vs Q E hr h => ?_)
  obtain ⟨p, ds, a, e, rfl, hS, hb, hdl, hae, hel, kF, kT, k⟩ := h
  refine ⟨_, (pss_cons (ps_set (i := 3) sc_read_entry.nd rfl (Or.inl rfl) (pe_op op_add (pv 1) pe_int))
      (pss_cons (ps_set (i := 4) sc_read_entry.nd rfl (Or.inl rfl) (pe_slice (r := rSlL K) sl_list (pv 0) (po_some (pv 3)) (po_some (pv 2))))
      (pss_cons (ps_if (PW.pt (pw_or (pt_cmpR op_notIn_seq (pe_glob (by rfl) T.c_EQUALS T.r_EQUALS) (pv 4) (by with_unfolding_all rfl)) (pw_or1 (pt_cmpR op_eq (pe_ix (r := rIxL K) ix_list (pv 4) pe_int (fun _ _ => rfl)) (pe_glob (by rfl) T.c_EQUALS T.r_EQUALS) (nomark _))))) (pss_one (L2N.ps_raise rfl (L2N.takes_of rfl rfl rfl rfl) (pmkN_oex T.x_InvalidForm.ox T.x_InvalidForm.iC T.ti_MonochordError_init (ok_MonochordError_init T) (hr.mono (by decide)) T.b_MonochordError_init .nil pass0 (by rfl) T.g_InvalidForm (pa_cons (pv 1) pa_nil)))) pss_nil)
      (pss_cons (ps_set (i := 5) sc_read_entry.nd rfl (Or.inl rfl) (pe_op op_add (pv 3) (pe_bm PySem.F.plainAttrs_list PySem.F.slot_list_index PySem.F.type_list_index mt_index (pv 4) (pa_cons (pe_glob (by rfl) T.c_EQUALS T.r_EQUALS) pa_nil))))
      (pss_cons (ps_for (passes_of rfl) rfl (pi_range2 (by rfl) T.m_range (pa_cons (pv 3) (pa_cons (pv 5) pa_nil))) (pg_name (i := 6) sc_read_entry.nd rfl (Or.inl rfl)) (pss_one (ps_if (PW.pt (pw_or (pt_cmpR op_lt (pe_ix (r := rIxL K) ix_list (pv 0) (pv 6) (fun _ _ => rfl)) pe_int (nomark _)) (pw_or1 (pt_cmpR op_gt (pe_ix (r := rIxL K) ix_list (pv 0) (pv 6) (fun _ _ => rfl)) pe_int (nomark _))))) (pss_one (L2N.ps_raise rfl (L2N.takes_of rfl rfl rfl rfl) (pmkN_oex T.x_InvalidText.ox T.x_InvalidText.iC T.ti_MonochordError_init (ok_MonochordError_init T) (hr.mono (by decide)) T.b_MonochordError_init .nil pass0 (by rfl) T.g_InvalidText (pa_cons (pv 6) pa_nil)))) pss_nil)))
      (pss_one (ps_ret (pe_tup (pa_cons (pe_slice (r := rSlL K) sl_list (pv 0) (po_some (pv 3)) (po_some (pv 5))) (pa_cons (pe_callX (ok_read_utf8 T) (hr.mono (by decide)) (by rfl) T.g_read_utf8 T.F_read_utf8.kp T.b_read_utf8 .nil (fun σ => L2N.passAt (L2N.takes_of rfl rfl rfl rfl) σ) (pa_cons (pv 0) (pa_cons (pe_op op_add (pv 5) pe_int) (pa_cons (pv 2) pa_nil)))) pa_nil)))))))))), ?_⟩
  have hcl : (ctN ds a e).length = e - (a + 4) := by unfold ctN; rw [List.length_take, List.length_drop]; omega
  have hle : (ctN ds a e).idxOf 61 ≤ (ctN ds a e).length := List.idxOf_le_length
  have hil := idx_len (l := ctN ds a e)
  have hsp := @idx_split (ctN ds a e) _ rfl
  have hmi := @mem_idx (ctN ds a e)
  have hcat : ∀ {m : Nat}, m < e - (a + 4) → (ctN ds a e)[m]? = ds[a + 4 + m]? := fun {m} h => by unfold ctN; rw [List.getElem?_take, if_pos h, List.getElem?_drop]
  unfold entR at kF kT k
  refine q_asg (v := .int ((a + 4 : Nat) : Int)) (Ev.is (ev_I0 (g := fun i j => .int (i + j)) (ev_var rfl) ev_c) (congrArg V.int (by omega))) fun H1 e1 => ?_
  refine q_asgL (xs := (cs (ctN ds a e)).map V.int) (EvL.is (el_mid (i := a + 4) (j := e) (Ev.s (ev_var rfl) (ex_l e1 hS)) (ev_var rfl) (ev_var rfl)) (by unfold ctN; rw [cs_drop, cs_take])) fun pc H2 hpc e2 gc => ?_
  have e12 := e1.trans e2
  obtain ⟨ct, hct⟩ : ∃ ct, ctN ds a e = ct := ⟨_, rfl⟩
  obtain ⟨i, hi⟩ : ∃ i, ct.idxOf 61 = i := ⟨_, rfl⟩
  rw [hct] at kF kT k hcl hle hil hsp hmi hcat gc
  rw [hi] at kF kT k hle hil hsp
  refine q_when (b := decide (i = ct.length ∨ i = 0)) (et_is (et_or (a := decide (61 ∉ ct)) (b := decide (i = 0)) (et_is (et_test (ev_notinB (K := K) ev_c (ev_var rfl) gc)) (decide_eq_decide.mpr (not_congr (mem_cs (x := 61))))) fun hf => ?_) (by rw [Bool.eq_iff_iff, Bool.or_eq_true, decide_eq_true_iff, decide_eq_true_iff, decide_eq_true_iff, ← hil])) (fun hc H3 e3 => ?_) fun hc H3 e3 => ?_
  · have hmem : 61 ∈ ct := by have := of_decide_eq_false hf; simpa using this
    have h0l : 0 < ct.length := List.length_pos_iff.mpr (by rintro rfl; cases hmem)
    have h0 : ct[0]? = some ct[0] := List.getElem?_eq_getElem h0l
    refine et_is (et_test (ev_eq (x := .int (ct[0] : Int)) (y := .int 61) (ev_at (K := K) (n := 0) (Ev.s (ev_var rfl) (sq_of gc)) ev_c (at_of (j := 0) rfl (at_int (cs_at h0)))) ev_c rfl)) (decide_eq_decide.mpr ?_)
    constructor
    · intro h
      injection h with h
      have h61 : ct[0] = 61 := by omega
      rw [← hi]
      cases ct with
      | nil => cases hmem
      | cons x r =>
        have h61 : x = 61 := h61
        rw [h61, List.idxOf_cons_self]
    · intro h
      have := hsp (by omega)
      rw [h] at this
      have h61 : ct[0]? = some 61 := by rw [this]; rfl
      rw [h0] at h61
      injection h61 with h61
      rw [h61]
      rfl
  · exact mk_err T.x_InvalidForm (ea_cons (ev_var rfl) ea_nil) fun H5 dd hdd e5 he => kF a (if_pos (of_decide_eq_true hc)) H5 dd (e12.trans (e3.trans e5)) he
  have hc := of_decide_eq_false hc
  rw [if_neg hc] at kF kT k
  have hlt : i < ct.length := by omega
  have hspl := hsp hlt
  have h61 : ct[i]? = some 61 := by
    rw [hspl, List.getElem?_append_right (by rw [List.length_take]; omega), List.length_take, show i - min i ct.length = 0 by omega]
    rfl
  refine q_asg (v := .int ((a + 4 + i : Nat) : Int)) (Ev.is (ev_I0 (g := fun i j => .int (i + j)) (ev_var rfl) (ev_index (K := K) (j := i) (ev_var rfl) (e3 _ _ gc) ev_c (cs_at (d := 61) h61) (fun m hm => ?_))) (congrArg V.int (by omega))) fun H4 e4 => ?_
  · have hm1 : ct[m]? = some (ct[m]'(by omega)) := List.getElem?_eq_getElem _
    have hne := hmi hi (x := ct[m]'(by omega)) (List.mem_of_getElem? (i := m) (by rw [List.getElem?_take, if_pos hm]; exact hm1))
    rw [cs_at hm1]
    intro h
    injection h with h
    exact hne (by omega)
  have e14 := e12.trans (e3.trans e4)
  obtain ⟨nm, hnm⟩ : ∃ nm, ct.take i = nm := ⟨_, rfl⟩
  have hnl : nm.length = i := by rw [← hnm, List.length_take]; omega
  rw [hnm] at kF kT k
  have hat : ∀ {m : Nat}, m < i → ∃ c, nm[m]? = some c ∧ ds[a + 4 + m]? = some c := fun {m} hm => by
    have h1 : nm[m]? = some (nm[m]'(by omega)) := List.getElem?_eq_getElem _
    refine ⟨_, h1, ?_⟩
    rw [← hcat (by omega), ← h1, ← hnm, List.getElem?_take, if_pos hm]
  show tSeq _ _ _ [some (.ref p), some (.int (a : Int)), some (.int (e : Int)), some (.int ((a + 4 : Nat) : Int)), some (.ref pc), some (.int ((a + 4 + i : Nat) : Int)), none] _
  refine q_forR2 (lo := ((a + 4 : Nat) : Int)) (n := ((a + 4 + i : Nat) : Int)) (ea_cons (ev_var rfl) (ea_cons (ev_var rfl) ea_nil)) (by omega) (fun j σ' H' => ∃ z : Option V, σ' = [some (.ref p), some (.int (a : Int)), some (.int (e : Int)), some (.int ((a + 4 : Nat) : Int)), some (.ref pc), some (.int ((a + 4 + i : Nat) : Int)), z] ∧ Ex H H' ∧ ∀ m c, m < j → nm[m]? = some c → badC c = false) (fun H5 e5 => ⟨none, rfl, e14.trans e5, fun m c hm => by omega⟩) ?_ ?_
  · rintro j σ' H5 hj ⟨z, rfl, ex, hgood⟩
    have hji : j < i := by omega
    obtain ⟨c, hc1, hc2⟩ := hat hji
    have byte : ∀ {G : Hp}, Ex H5 G → Ev (tOp (rIxL K) (tVar 0) (tVar 6)) [some (.ref p), some (.int (a : Int)), some (.int (e : Int)), some (.int ((a + 4 : Nat) : Int)), some (.ref pc), some (.int ((a + 4 + i : Nat) : Int)), some (.int (((a + 4 : Nat) : Int) + (j : Int)))] G (.int (c : Int)) := fun e => ev_at (K := K) (n := ((a + 4 + j : Nat) : Int)) (Ev.s (ev_var rfl) (ex_l (ex.trans e) hS)) (Ev.is (ev_var rfl) (congrArg V.int (by omega))) (at_of (j := a + 4 + j) rfl (at_int (cs_at hc2)))
    refine s_when (b := badC c) (et_is (et_or (a := decide (c < 32)) (b := decide (126 < c)) (et_is (et_test (ev_I0 (g := fun i j => .bl (decide (i < j))) (byte (Ex.refl _)) ev_c)) (decide_eq_decide.mpr (by omega))) fun _ => et_is (et_test (ev_I0 (g := fun i j => .bl (decide (j < i))) (byte (Ex.refl _)) ev_c)) (decide_eq_decide.mpr (by omega))) rfl) (fun hbad H6 e6 => ?_) fun hgd H6 e6 => ⟨_, rfl, ex.trans e6, fun m c' hm hc' => ?_⟩
    · have hfi : nm.findIdx badC = j := by
        rw [List.findIdx_eq (by omega)]
        have hjn : nm[j]'(by omega) = c := by have h1 : nm[j]? = some (nm[j]'(by omega)) := List.getElem?_eq_getElem _; rw [hc1] at h1; exact (Option.some.inj h1).symm
        exact ⟨by rw [hjn]; exact hbad, fun m hm => hgood m _ hm (List.getElem?_eq_getElem (by omega))⟩
      refine mk_err T.x_InvalidText (ea_cons (Ev.is (ev_var rfl) (congrArg V.int (show _ = ((a + 4 + j : Nat) : Int) by omega))) ea_nil) fun H7 dd hdd e7 he => kT (a + 4 + j) ?_ H7 dd (ex.trans (e6.trans e7)) he
      rw [if_pos (by omega), hfi]
    · rcases Nat.lt_succ_iff_lt_or_eq.mp hm with h | rfl
      · exact hgood m c' h hc'
      · rw [hc1] at hc'
        cases hc'
        exact hgd
  · rintro σ' H5 ⟨z, rfl, ex, hgood⟩
    have hfi : ¬ nm.findIdx badC < i := by
      intro h
      have h2 := List.findIdx_getElem (p := badC) (xs := nm) (w := by omega)
      rw [hgood _ _ (by omega) (List.getElem?_eq_getElem (by omega))] at h2
      cases h2
    rw [if_neg hfi] at kF kT k
    refine s_retLX (xs := (cs nm).map V.int) (args := [.ref p, .int ((a + 4 + i + 1 : Nat) : Int), .int (e : Int)]) (EvL.is (el_mid (i := a + 4) (j := a + 4 + i) (Ev.s (ev_var rfl) (ex_l ex hS)) (ev_var rfl) (ev_var rfl)) (by
      rw [cs_drop, cs_take, ← hnm, ← hct]
      unfold ctN
      rw [List.take_take, show min i (e - (a + 4)) = a + 4 + i - (a + 4) by omega])) (ea_cons (ev_var rfl) (ea_cons (Ev.is (ev_I0 (g := fun i j => .int (i + j)) (ev_var rfl) ev_c) (congrArg V.int (by omega))) (ea_cons (ev_var rfl) ea_nil))) fun q1 H6 hq1 e6 g1 => ⟨p, ds, a + 4 + i + 1, e, rfl, ex_l (ex.trans e6) hS, by omega, hb, by omega, hel, fun n hn H7 dd e7 he => ?_, fun tx htx q2 H7 hq2 e7 g2 => ⟨sz_of (show 2 ≤ 100000 by decide), fun t ht => ?_⟩⟩
    · have hn := rd_err (by rw [← outT_rd]; exact hn)
      exact kT n (by rw [hn]) H7 dd (ex.trans (e6.trans e7)) he
    · have htx := rd_ok (by rw [← outT_rd]; exact htx)
      have e3' := (ex.trans e6).trans e7
      exact k (nm, tx) (by rw [htx]) t q1 q2 _ (fresh_back e3' ht) (fresh_back ex hq1) (fresh_back (ex.trans e6) hq2) (e3'.trans (Ex.new ht)) upd_same (Ex.new ht _ _ (e7 _ _ g1)) (Ex.new ht _ _ g2)

-- K51C
theorem q_forW1 {σ : L2.St} {H : Hp} {D : Ends} {tu tz : TS} {ta : TA} {j n : Nat} (h : EvA ta σ H [.int (n : Int)]) (hn : n < 4294967296) (Pv : Nat → L2.St → Hp → Prop) (h0 : ∀ H1, Ex H H1 → Pv 0 σ H1) (hs : ∀ i σ' H', i < n → Pv i σ' H' → tu { nx := Pv (i + 1), rt := D.rt, bk := tz D, ct := Pv (i + 1) } (σ'.set j (some (.int (i : Int)))) H') (hd : ∀ σ' H', Pv n σ' H' → tz D σ' H') : tSeq (tFor (iRng1 ta) (gName j) tu) tz D σ H :=
  h H (Ex.refl H) _ fun H1 e1 => ⟨(n : Int), rfl, by omega, by omega, by
    rw [Int.toNat_natCast]
    exact for_range (D := { D with nx := tz D }) Pv (h0 H1 e1) (fun i σ' H' hi pv => by
      show tu _ (σ'.set j (some (.int ((0 : Int) + (i : Int))))) H'
      rw [Int.zero_add]
      exact hs i σ' H' hi pv) hd⟩
theorem entsR_succ {ds : List Nat} {stop n a : Nat} {l : List Ne} : entsR ds stop (n + 1) a l = match lenF ds a stop with
    | none => .error (true, a)
    | some len => match entR ds a (a + 4 + len) with
      | .error f => .error f
      | .ok e => entsR ds stop n (a + 4 + len) (l ++ [e]) := rfl
theorem entsR_zero {ds : List Nat} {stop a : Nat} {l : List Ne} : entsR ds stop 0 a l = .ok (a, l) := rfl
def sp_rcx (K : PySem.W.Frag) (C CF CT : Addr) : Sp := fun vs H Q E => ∃ (p : Addr) (ds : List Nat) (st stop : Nat), vs = [.ref p, .int (st : Int), .int (stop : Int)] ∧ SqL K H p ((cs ds).map V.int) ∧ (∀ d ∈ ds, d < 256) ∧ ds.length ≤ 1000 ∧ stop ≤ ds.length ∧ (∀ n, cmR ds st stop = .error (true, n) → RdErr E CF "InvalidForm" n H) ∧ (∀ n, cmR ds st stop = .error (false, n) → RdErr E CT "InvalidText" n H) ∧ ∀ vd l, cmR ds st stop = .ok (vd, l) → ∀ c H', H c = none → Ex H H' → CmN (fun b => H b = none) C H' c (cs vd) (l.map neI) → Q (.ref c) H'
theorem ok_read_comments (T : TX K mg) : FnOk P w K mg base (L2N.CX P w) 6 T.a_read_comments T.d_read_comments ["data", "start", "stop"] (sp_rcx K T.C_Comments T.C_InvalidForm T.C_InvalidText) := by
  refine T.F_read_comments.okN sc_read_comments (fun vs H Q E h => by obtain ⟨p, ds, st, stop, rfl, _⟩ := h; rfl) (fun cdv A outer s0 H vs Q E hr h => ?_)
  obtain ⟨p, ds, st, stop, rfl, hS, hb, hdl, hsl, kF, kT, k⟩ := h
  refine ⟨_, (pss_cons (ps_set (i := 3) sc_read_comments.nd rfl (Or.inl rfl) (pe_op op_add (pe_op op_add (pv 1) pe_int) (pe_callX (ok_read_length T) (hr.mono (by decide)) (by rfl) T.g_read_length T.F_read_length.kp T.b_read_length .nil (fun σ => L2N.passAt (L2N.takes_of rfl rfl rfl rfl) σ) (pa_cons (pv 0) (pa_cons (pv 1) (pa_cons (pv 2) pa_nil))))))
      (pss_cons (ps_set (i := 4) sc_read_comments.nd rfl (Or.inl rfl) (pe_callX (ok_read_utf8 T) (hr.mono (by decide)) (by rfl) T.g_read_utf8 T.F_read_utf8.kp T.b_read_utf8 .nil (fun σ => L2N.passAt (L2N.takes_of rfl rfl rfl rfl) σ) (pa_cons (pv 0) (pa_cons (pe_op op_add (pv 1) pe_int) (pa_cons (pv 3) pa_nil)))))
      (pss_cons (ps_expr (pe_callX (ok_check_inside T) (hr.mono (by decide)) (by rfl) T.g_check_inside T.F_check_inside.kp T.b_check_inside .nil (fun σ => L2N.passAt (L2N.takes_of rfl rfl rfl rfl) σ) (pa_cons (pv 3) (pa_cons pe_int (pa_cons (pv 2) pa_nil)))))
      (pss_cons (ps_set (i := 5) sc_read_comments.nd rfl (Or.inl rfl) (pe_call (ok_little_number T) (hr.mono (by decide)) (by rfl) T.g_little_number T.F_little_number.kp T.b_little_number .nil pass0 (pa_cons (pv 0) (pa_cons (pv 3) (pa_cons pe_int pa_nil)))))
      (pss_cons (ps_aug (i := 3) sc_read_comments.nd rfl (Or.inl rfl) pe_int ip_add)
      (pss_cons (ps_set (i := 6) sc_read_comments.nd rfl (Or.inl rfl) (pe_lst pa_nil))
      (pss_cons (ps_for (passes_of rfl) rfl (pi_range1 (by rfl) T.m_range (pa_cons (pv 5) pa_nil)) (pg_name (i := 7) sc_read_comments.nd rfl (Or.inl rfl)) (pss_cons (ps_set (i := 8) sc_read_comments.nd rfl (Or.inl rfl) (pe_op op_add (pe_op op_add (pv 3) pe_int) (pe_callX (ok_read_length T) (hr.mono (by decide)) (by rfl) T.g_read_length T.F_read_length.kp T.b_read_length .nil (fun σ => L2N.passAt (L2N.takes_of rfl rfl rfl rfl) σ) (pa_cons (pv 0) (pa_cons (pv 3) (pa_cons (pv 2) pa_nil))))))
        (pss_cons (ps_expr (pe_bm PySem.F.plainAttrs_list PySem.F.slot_list_append PySem.F.type_list_append mt_append (pv 6) (pa_cons (pe_callX (ok_read_entry T) (hr.mono (by decide)) (by rfl) T.g_read_entry T.F_read_entry.kp T.b_read_entry .nil (fun σ => L2N.passAt (L2N.takes_of rfl rfl rfl rfl) σ) (pa_cons (pv 0) (pa_cons (pv 3) (pa_cons (pv 8) pa_nil)))) pa_nil)))
        (pss_one (ps_set (i := 3) sc_read_comments.nd rfl (Or.inl rfl) (pv 8))))))
      (pss_cons (ps_if (pt_cmpR op_lt (pv 3) (pv 2) (nomark _)) (pss_one (L2N.ps_raise rfl (L2N.takes_of rfl rfl rfl rfl) (pmkN_oex T.x_InvalidForm.ox T.x_InvalidForm.iC T.ti_MonochordError_init (ok_MonochordError_init T) (hr.mono (by decide)) T.b_MonochordError_init .nil pass0 (by rfl) T.g_InvalidForm (pa_cons (pv 3) pa_nil)))) pss_nil)
      (pss_one (ps_ret (pe_make T.M_Comments (ok_Comments_init T) (hr.mono (by decide)) (by rfl) T.g_Comments T.b_Comments_init .nil pass0 (pa_cons (pv 4) (pa_cons (pv 6) pa_nil))))))))))))), ?_⟩
  refine q_asgOpX (x := ((st + 4 : Nat) : Int)) (args := [.ref p, .int (st : Int), .int (stop : Int)]) (Ev.is (ev_I0 (g := fun i j => .int (i + j)) (ev_var rfl) ev_c) (congrArg V.int (by omega))) (ea_cons (ev_var rfl) (ea_cons (ev_var rfl) (ea_cons (ev_var rfl) ea_nil))) fun H1 e1 => ⟨p, ds, st, stop, rfl, ex_l e1 hS, hb, hsl, fun h H' dd e he => kF st (by unfold cmR; rw [h]) H' dd (e1.trans e) he, fun len hlen H2 e2 => ⟨_, _, rfl, rfl, ?_⟩⟩
  obtain ⟨k1, k2⟩ := lenF_some hlen
  unfold cmR at kF kT k
  simp only [hlen] at kF kT k
  show tSeq _ _ _ [some (.ref p), some (.int (st : Int)), some (.int (stop : Int)), some (.int (((st + 4 : Nat) : Int) + (len : Int))), none, none, none, none, none] _
  rw [show ((st + 4 : Nat) : Int) + (len : Int) = ((st + 4 + len : Nat) : Int) by omega]
  have e12 := e1.trans e2
  refine q_asgX1 (args := [.ref p, .int ((st + 4 : Nat) : Int), .int ((st + 4 + len : Nat) : Int)]) (ea_cons (ev_var rfl) (ea_cons (Ev.is (ev_I0 (g := fun i j => .int (i + j)) (ev_var rfl) ev_c) (congrArg V.int (by omega))) (ea_cons (ev_var rfl) ea_nil))) fun H3 e3 => ⟨p, ds, st + 4, st + 4 + len, rfl, ex_l (e12.trans e3) hS, by omega, hb, by omega, by omega, fun n hn H' dd e he => kT n (by simp only [rd_err (show rdD (rdT ds (st + 4) (st + 4 + len)) = errT n by rw [← outT_rd]; exact hn)]) H' dd ((e12.trans e3).trans e) he, fun vd hvd pu H4 hpu e4 gu => ?_⟩
  have hvd := rd_ok (show rdD (rdT ds (st + 4) (st + 4 + len)) = textD vd by rw [← outT_rd]; exact hvd)
  simp only [hvd] at kF kT k
  have e14 := e12.trans (e3.trans e4)
  refine q_chkX (a := st + 4 + len) (b := 4) (c := stop) (ev_var rfl) ev_c (ev_var rfl) (fun h H' dd e he => kF (st + 4 + len) (if_pos h) H' dd (e14.trans e) he) fun h H5 e5 => ?_
  rw [if_neg (by omega)] at kF kT k
  obtain ⟨w1, w2⟩ := lowN_num hb (a := st + 4 + len) (by omega)
  refine q_asg (v := .int (numN ds (st + 4 + len) : Int)) (ev_lnum (m := 4) (Ev.s (ev_var rfl) (ex_l (e14.trans e5) hS)) (ev_var rfl) ev_c (by decide) (has_num hb (by omega)) w2) fun H6 e6 => ?_
  refine q_aug (a := ((st + 4 + len : Nat) : Int)) (b := 4) rfl ev_c fun H7 e7 => ?_
  refine q_asgL (xs := []) (el_lst ea_nil (by decide)) fun pl H8 hpl e8 gl => ?_
  generalize numN ds (st + 4 + len) = cnt at *
  have e47 := e5.trans (e6.trans e7)
  have e17 := e14.trans e47
  have hplH := fresh_back e17 hpl
  have gu7 := e47 _ _ gu
  have npu : pu ≠ pl := by
    rintro rfl
    rw [gu7] at hpl
    cases hpl
  obtain ⟨a0, ha0⟩ : ∃ a0, st + 4 + len + 4 = a0 := ⟨_, rfl⟩
  rw [ha0] at kF kT k
  have h34 : ((st + 4 + len : Nat) : Int) + 4 = (a0 : Int) := by omega
  show tSeq _ _ _ [some (.ref p), some (.int (st : Int)), some (.int (stop : Int)), some (.int (((st + 4 + len : Nat) : Int) + 4)), some (.ref pu), some (.int (cnt : Int)), some (.ref pl), none, none] _
  rw [h34]
  refine q_forW1 (n := cnt) (ea_cons (ev_var rfl) ea_nil) w2 (fun i σ' H' => ∃ (a : Nat) (l : List Ne) (as : List Addr) (z7 z8 : Option V), σ' = [some (.ref p), some (.int (st : Int)), some (.int (stop : Int)), some (.int (a : Int)), some (.ref pu), some (.int (cnt : Int)), some (.ref pl), z7, z8] ∧ Ex H H' ∧ H' pu = some (.lst ((cs vd).map V.int)) ∧ H' pl = some (.lst (as.map V.ref)) ∧ EnsN (fun b => b ≠ pl) H' as (l.map neI) ∧ entsR ds stop (cnt - i) a l = entsR ds stop cnt a0 [] ∧ a ≤ stop ∧ l.length ≤ a) (fun H9 e9 => ⟨a0, [], [], none, none, rfl, e17.trans (e8.trans e9), (e8.trans e9) _ _ gu7, e9 _ _ gl, EnsN.nil, rfl, by omega, Nat.zero_le _⟩) ?_ ?_
  · rintro i σ' H9 hi ⟨a, l, as, z7, z8, rfl, ex, gu9, gl9, hE, hR, has, hla⟩
    obtain ⟨m, hm⟩ : ∃ m, cnt - i = m + 1 := ⟨cnt - i - 1, by omega⟩
    have hm2 : cnt - (i + 1) = m := by omega
    rw [hm] at hR
    rw [hm2]
    rw [entsR_succ] at hR
    refine q_asgOpX (x := ((a + 4 : Nat) : Int)) (args := [.ref p, .int (a : Int), .int (stop : Int)]) (Ev.is (ev_I0 (g := fun i j => .int (i + j)) (ev_var rfl) ev_c) (congrArg V.int (by omega))) (ea_cons (ev_var rfl) (ea_cons (ev_var rfl) (ea_cons (ev_var rfl) ea_nil))) fun H10 e10 => ⟨p, ds, a, stop, rfl, ex_l (ex.trans e10) hS, hb, hsl, fun h H' dd e he => kF a (by rw [← hR, h]) H' dd ((ex.trans e10).trans e) he, fun len2 hlen2 H11 e11 => ⟨_, _, rfl, rfl, ?_⟩⟩
    obtain ⟨k3, k4⟩ := lenF_some hlen2
    simp only [hlen2] at hR
    show tSeq _ _ _ [some (.ref p), some (.int (st : Int)), some (.int (stop : Int)), some (.int (a : Int)), some (.ref pu), some (.int (cnt : Int)), some (.ref pl), some (.int (i : Int)), some (.int (((a + 4 : Nat) : Int) + (len2 : Int)))] _
    rw [show ((a + 4 : Nat) : Int) + (len2 : Int) = ((a + 4 + len2 : Nat) : Int) by omega]
    have e911 := e10.trans e11
    refine q_appX (sp := sp_rex K T.C_InvalidForm T.C_InvalidText) (dvs := []) (args := [.ref p, .int (a : Int), .int ((a + 4 + len2 : Nat) : Int)]) (e911 _ _ gl9) (ev_var rfl) (ea_cons (ev_var rfl) (ea_cons (ev_var rfl) (ea_cons (ev_var rfl) ea_nil))) fun H12 e12' => ⟨p, ds, a, a + 4 + len2, rfl, ex_l (ex.trans (e911.trans e12')) hS, hb, hdl, by omega, by omega, fun n hn H' dd e he => kF n (by rw [← hR]; simp only [hn]) H' dd ((ex.trans (e911.trans e12')).trans e) he, fun n hn H' dd e he => kT n (by rw [← hR]; simp only [hn]) H' dd ((ex.trans (e911.trans e12')).trans e) he, fun u hu T0 pn p2 H13 n0 n1 n2 e13 g0 g1 g2 => ?_⟩
    simp only [hu] at hR
    have e913 := e911.trans (e12'.trans e13)
    have gl13 := e913 _ _ gl9
    have ne : ∀ {b : Addr}, H12 b = none → b ≠ pl := fun h => ne_known h (by rw [(e911.trans e12') _ _ gl9]; exact fun z => nomatch z)
    refine ⟨pl, _, _, rfl, rfl, gl13, sz_lt (by rw [List.length_map, hE.1, List.length_map]; omega), ?_⟩
    refine s_asg (v := .int ((a + 4 + len2 : Nat) : Int)) (ev_var rfl) fun H14 e14' => ⟨a + 4 + len2, l ++ [u], as ++ [T0], some (.int (i : Int)), some (.int ((a + 4 + len2 : Nat) : Int)), rfl, (Ex.mut (ex.trans e913) hplH).trans e14', e14' _ _ (by rw [upd_ne npu]; exact e913 _ _ gu9), e14' _ _ (by rw [upd_same, List.map_append]; rfl), ?_, hR, by omega, by rw [List.length_append]; show _ + 1 ≤ _; omega⟩
    rw [List.map_append]
    exact ((hE.kp ((Kp.ex e913).mut fun h => absurd rfl h)).snoc (e := neI u) (ne n0) (by rw [upd_ne (ne n0)]; exact g0) (ne n1) (by rw [upd_ne (ne n1)]; exact g1) (ne n2) (by rw [upd_ne (ne n2)]; exact g2)).ex e14'
  · rintro σ' H9 ⟨a, l, as, z7, z8, rfl, ex, gu9, gl9, hE, hR, has, hla⟩
    rw [Nat.sub_self, entsR_zero] at hR
    simp only [← hR] at kF kT k
    refine q_when (b := decide (a < stop)) (et_is (et_test (ev_I0 (g := fun i j => .bl (decide (i < j))) (ev_var rfl) (ev_var rfl))) (decide_eq_decide.mpr (by omega))) (fun hc H10 e10 => ?_) fun hc H10 e10 => ?_
    · exact mk_err T.x_InvalidForm (ea_cons (ev_var rfl) ea_nil) fun H5 dd hdd e5 he => kF a (if_pos (of_decide_eq_true hc)) H5 dd (ex.trans (e10.trans e5)) he
    rw [if_neg (of_decide_eq_false hc)] at k
    refine s_retN (en_cm T (ev_var rfl) (e10 _ _ gu9) (Ev.x (ev_var rfl) fun G eG => ⟨pl, as, rfl, (e10.trans eG) _ _ gl9, (hE.imp fun _ _ _ => trivial).ex (e10.trans eG)⟩) (by rw [List.length_map]; omega)) fun c H11 hc2 e11 hC => k vd l rfl c H11 (fresh_back (ex.trans e10) hc2) (ex.trans (e10.trans e11)) (hC.imp fun b _ h => fresh_back (ex.trans e10) h)

-- K51D
/-! ### what the law expects -/
theorem ev_intb {σ : L2.St} {H : Hp} {te : TE} {b : Bool} (h : Ev te σ H (.bl b)) : Ev (tCB (fun xs H Q => (∃ i, xs = [V.int i] ∧ Q (V.int i) H) ∨ ∃ k, xs = [V.bl k] ∧ Q (V.int (if k = true then 1 else 0)) H) (tCons te tNil)) σ H (.int (if b = true then 1 else 0)) :=
  ev_cb (ea_cons h ea_nil) fun H1 e Q q => .inr ⟨b, rfl, q H1 (Ex.refl H1)⟩
theorem cnt_sum {d : Nat} (h2 : 192 ≤ d ∧ d < 248) : (2 : Int) + (if decide ((224 : Int) ≤ (d : Int)) = true then 1 else 0) + (if decide ((240 : Int) ≤ (d : Int)) = true then 1 else 0) = ((if 192 ≤ d ∧ d < 224 then 2 else if 224 ≤ d ∧ d < 240 then 3 else if 240 ≤ d ∧ d < 248 then 4 else 0 : Nat) : Int) := by
  simp only [decide_eq_true_iff]
  repeat' split
  all_goals omega
def sp_llen : Sp := fun vs H Q _ => ∃ d : Nat, vs = [.int (d : Int)] ∧ RetV (.int (cntT d : Int)) H Q
theorem ok_law_length (T : TX K mg) : FnOk P w K mg base CX0 1 T.a_law_length T.d_law_length ["first"] sp_llen := by
  refine T.F_law_length.ok sc_law_length (fun vs H Q E h => by obtain ⟨d, rfl, _⟩ := h; rfl) (fun cdv A outer s0 H vs Q E hr h => ?_)
  obtain ⟨d, rfl, k⟩ := h
  refine ⟨_, (pss_cons (ps_if (pt_cmpR op_lt (pv 0) pe_int (nomark _)) (pss_one (ps_ret pe_int)) pss_nil)
      (pss_cons (ps_if (pt_chain op_le op_lt pe_int (pv 0) pe_int) (pss_one (ps_ret (pe_op op_add (pe_op op_add pe_int (pe_callTy call_int1 (by rfl) T.m_int PyProof.Rows.boot_int (pa_cons (pe_cmpR op_ge (pv 0) pe_int (nomark _)) pa_nil))) (pe_callTy call_int1 (by rfl) T.m_int PyProof.Rows.boot_int (pa_cons (pe_cmpR op_ge (pv 0) pe_int (nomark _)) pa_nil))))) pss_nil)
      (pss_one (ps_ret pe_int)))), ?_⟩
  rw [cntT_eq] at k
  refine q_when (b := decide (d < 128)) (et_is (et_test (ev_I0 (g := fun i j => .bl (decide (i < j))) (ev_var rfl) ev_c)) (decide_eq_decide.mpr (by omega))) (fun h H1 e1 => ?_) (fun h H1 e1 => ?_)
  · rw [if_pos (of_decide_eq_true h)] at k
    exact s_ret ev_c fun H2 e2 => k.go (e1.trans e2)
  have h1 := of_decide_eq_false h
  rw [if_neg h1] at k
  refine q_when (b := decide (192 ≤ d ∧ d < 248)) (et_is (et_test (ev_chain (g := fun i j => decide (i ≤ j)) (g' := fun i j => decide (i < j)) ev_c (ev_var rfl) ev_c)) (by rw [Bool.eq_iff_iff, Bool.and_eq_true, decide_eq_true_iff, decide_eq_true_iff, decide_eq_true_iff]; omega)) (fun h H2 e2 => ?_) (fun h H2 e2 => ?_)
  · have h2 := of_decide_eq_true h
    refine s_ret (Ev.is (ev_I0 (g := fun i j => .int (i + j)) (ev_I0 (g := fun i j => .int (i + j)) ev_c (ev_intb (ev_I0 (g := fun i j => .bl (decide (j ≤ i))) (ev_var rfl) ev_c))) (ev_intb (ev_I0 (g := fun i j => .bl (decide (j ≤ i))) (ev_var rfl) ev_c))) (congrArg V.int ?_)) fun H3 e3 => k.go (e1.trans (e2.trans e3))
    exact cnt_sum h2
  · have h2 := of_decide_eq_false h
    rw [if_neg (by omega), if_neg (by omega), if_neg (by omega)] at k
    exact s_ret ev_c fun H5 e5 => k.go (e1.trans (e2.trans e5))
theorem ev_llen {σ : L2.St} {H : Hp} {te : TE} {E : XK} {d : Nat} (h : Ev te σ H (.int (d : Int))) : Ev (tCall sp_llen [] E (tCons te tNil)) σ H (.int (cntT d : Int)) := ev_call (ea_cons h ea_nil) fun H1 _ Q q _ => ⟨d, rfl, q⟩
def hv (d n : Nat) : Nat := if n = 1 then d else headV d n
def mnN (n : Nat) : Nat := if n = 1 then 0 else minN n
theorem mask_hv {d n : Nat} (h : n = cntT d) (hd : d < 256) (h1 : 1 ≤ n) : ∃ m : Nat, [0, 127, 31, 15, 7][n]? = some m ∧ Builtin.bitAnd (d : Int) (m : Int) = ((hv d n : Nat) : Int) := by
  have l2 : leastN 2 = 192 := rfl
  have l3 : leastN 3 = 224 := rfl
  have l4 : leastN 4 = 240 := rfl
  rw [cntT_eq] at h
  have e7 := _root_.Bits.bitAnd_mask (x := (d : Int)) 7 (by omega)
  have e5 := _root_.Bits.bitAnd_mask (x := (d : Int)) 5 (by omega)
  have e4 := _root_.Bits.bitAnd_mask (x := (d : Int)) 4 (by omega)
  have e3 := _root_.Bits.bitAnd_mask (x := (d : Int)) 3 (by omega)
  have p7 : (2 : Int) ^ 7 = 128 := rfl
  have p5 : (2 : Int) ^ 5 = 32 := rfl
  have p4 : (2 : Int) ^ 4 = 16 := rfl
  have p3 : (2 : Int) ^ 3 = 8 := rfl
  rw [p7] at e7
  rw [p5] at e5
  rw [p4] at e4
  rw [p3] at e3
  unfold hv headV
  split at h
  · subst h
    exact ⟨127, rfl, by rw [if_pos rfl, show ((127 : Nat) : Int) = 128 - 1 from rfl, e7]; omega⟩
  split at h
  · subst h
    exact ⟨31, rfl, by rw [if_neg (by decide), show ((31 : Nat) : Int) = 32 - 1 from rfl, e5]; omega⟩
  split at h
  · subst h
    exact ⟨15, rfl, by rw [if_neg (by decide), show ((15 : Nat) : Int) = 16 - 1 from rfl, e4]; omega⟩
  split at h
  · subst h
    exact ⟨7, rfl, by rw [if_neg (by decide), show ((7 : Nat) : Int) = 8 - 1 from rfl, e3]; omega⟩
  omega
theorem min_at1 {n : Nat} (h1 : 1 ≤ n) (h4 : n ≤ 4) : [0, 0, 128, 2048, 65536][n]? = some (mnN n) := by
  have : n = 1 ∨ n = 2 ∨ n = 3 ∨ n = 4 := by omega
  rcases this with rfl | rfl | rfl | rfl <;> rfl
def badQ (n p : Nat) : Bool := decide (p < mnN n) || (decide (1114111 < p) || (decide (55296 ≤ p) && decide (p < 57344)))
theorem seqP_hv {d n : Nat} {xs : List Nat} (hn : n = cntT d) (h1 : 1 ≤ n) (hx : xs.length = n - 1) : seqP d n xs = if xs.all okB then (if badQ n (foldP (hv d n) xs) then none else some (foldP (hv d n) xs)) else none := by
  unfold seqP badQ hv mnN
  by_cases e1 : n = 1
  · have hx0 : xs = [] := List.eq_nil_of_length_eq_zero (by omega)
    have hd : d < 128 := by
      rw [cntT_eq] at hn
      split at hn
      · assumption
      split at hn
      · omega
      split at hn
      · omega
      split at hn <;> omega
    rw [if_pos e1, if_pos e1, if_pos e1, hx0]
    show some d = if true = true then (if (decide (d < 0) || _) = true then none else some d) else none
    rw [if_pos rfl, if_neg]
    rw [Bool.not_eq_true, Bool.or_eq_false_iff, Bool.or_eq_false_iff, Bool.and_eq_false_iff, decide_eq_false_iff_not, decide_eq_false_iff_not, decide_eq_false_iff_not, decide_eq_false_iff_not]
    show ¬ d < 0 ∧ ¬ 1114111 < d ∧ (¬ 55296 ≤ d ∨ ¬ d < 57344)
    omega
  · rw [if_neg e1, if_neg e1, if_neg e1]
    rfl
theorem rdR_succ {ds : List Nat} {stop f at_ : Nat} {tx : List Nat} : rdR ds stop (f + 1) at_ tx = if at_ < stop then (match seqF ds at_ stop with | none => .error at_ | some (p, n) => rdR ds stop f (at_ + n) (tx ++ [p])) else .ok tx := rfl
theorem rdR_end {ds : List Nat} {stop at_ : Nat} {tx : List Nat} (h : stop ≤ at_) : ∀ f, rdR ds stop f at_ tx = .ok tx
  | 0 => rfl
  | f + 1 => by rw [rdR_succ, if_neg (by omega)]
def rdV : Except Nat (List Nat) → Int
  | .error n => (n : Int)
  | .ok _ => -1
def sp_ltf (K : PySem.W.Frag) : Sp := fun vs H Q _ => ∃ (a : Addr) (ds : List Nat) (st stop : Nat), vs = [.ref a, .int (st : Int), .int (stop : Int)] ∧ SqL K H a ((cs ds).map V.int) ∧ ds.length ≤ 1000 ∧ (∀ d ∈ ds, d < 256) ∧ st ≤ stop ∧ stop ≤ ds.length ∧ RetV (.int (rdV (rdT ds st stop))) H Q
theorem ok_law_text_fault (T : TX K mg) : FnOk P w K mg base CX0 2 T.a_law_text_fault T.d_law_text_fault ["data", "start", "stop"] (sp_ltf K) := by
  refine T.F_law_text_fault.ok sc_law_text_fault (fun vs H Q E h => by obtain ⟨a, ds, st, stop, rfl, _⟩ := h; rfl) (fun cdv A outer s0 H vs Q E hr h => ?_)
  obtain ⟨a, ds, st, stop, rfl, hS, hdl, hb, hle, hsl, k⟩ := h
  refine ⟨_, (pss_cons (ps_set (i := 3) sc_law_text_fault.nd rfl (Or.inl rfl) (pv 1))
      (pss_cons (ps_for PassesOwn.never rfl (pi_range1 (by rfl) T.m_range (pa_cons (pe_op op_sub (pv 2) (pv 1)) pa_nil)) (pg_name (i := 4) sc_law_text_fault.nd rfl (Or.inl rfl)) (pss_one (ps_if (pt_cmpR op_lt (pv 3) (pv 2) (nomark _)) (pss_cons (ps_set (i := 5) sc_law_text_fault.nd rfl (Or.inl rfl) (pe_call (ok_law_length T) (hr.mono (by decide)) (by rfl) T.g_law_length T.F_law_length.kp T.b_law_length .nil pass0 (pa_cons (pe_ix (r := rIxL K) ix_list (pv 0) (pv 3) (fun _ _ => rfl)) pa_nil)))
          (pss_cons (ps_if (PW.pt (pw_or (pt_cmpR op_eq (pv 5) pe_int (nomark _)) (pw_or1 (pt_cmpR op_gt (pe_op op_add (pv 3) (pv 5)) (pv 2) (nomark _))))) (pss_one (ps_ret (pv 3))) pss_nil)
          (pss_cons (ps_set (i := 6) sc_law_text_fault.nd rfl (Or.inl rfl) (pe_slice (r := rSlL K) sl_list (pv 0) (po_some (pe_op op_add (pv 3) pe_int)) (po_some (pe_op op_add (pv 3) (pv 5)))))
          (pss_cons (ps_if (pt_not (pt_val (pe_callB (r := rAll K) (cr_all rfl) (by rfl) T.m_all PyProof.Rows.boot_all (pa_cons (pe_lc (own := [("byte", 7)]) (g := gName 7) (tt := tYes) rfl sc_law_text_fault.nd (pi_list (pv 6)) (blkOk_by (N := ["data", "start", "stop", "at", "k", "length", "rest", "byte", "point"]) (sc := defScope s_law_text_fault) (by decide +kernel)) (fun _ _ _ _ _ => pg_name (i := 7) sc_law_text_fault.nd rfl (Or.inl rfl)) (fun _ _ _ _ _ => pts_nil) (fun _ _ _ _ _ => (pe_chain op_le op_lt pe_int (pv 7) pe_int))) pa_nil)))) (pss_one (ps_ret (pv 3))) pss_nil)
          (pss_cons (ps_set (i := 8) sc_law_text_fault.nd rfl (Or.inl rfl) (pe_op op_and (pe_ix (r := rIxL K) ix_list (pv 0) (pv 3) (fun _ _ => rfl)) (pe_ix (r := rIxL K) ix_list (pe_lst (pa_cons pe_int (pa_cons pe_int (pa_cons pe_int (pa_cons pe_int (pa_cons pe_int pa_nil)))))) (pv 5) (fun _ _ => rfl))))
          (pss_cons (ps_for PassesOwn.never rfl (pi_list (pv 6)) (pg_name (i := 7) sc_law_text_fault.nd rfl (Or.inl rfl)) (pss_one (ps_set (i := 8) sc_law_text_fault.nd rfl (Or.inl rfl) (pe_op op_sub (pe_op op_add (pe_op op_mul (pv 8) pe_int) (pv 7)) pe_int))))
          (pss_cons (ps_if (PW.pt (pw_or (pt_cmpR op_lt (pv 8) (pe_ix (r := rIxL K) ix_list (pe_lst (pa_cons pe_int (pa_cons pe_int (pa_cons pe_int (pa_cons pe_int (pa_cons pe_int pa_nil)))))) (pv 5) (fun _ _ => rfl)) (nomark _)) (pw_or (pt_cmpR op_gt (pv 8) pe_int (nomark _)) (pw_or1 (pt_chain op_le op_lt pe_int (pv 8) pe_int))))) (pss_one (ps_ret (pv 3))) pss_nil)
          (pss_one (ps_set (i := 3) sc_law_text_fault.nd rfl (Or.inl rfl) (pe_op op_add (pv 3) (pv 5))))))))))) pss_nil)))
      (pss_one (ps_ret (pe_un un_neg pe_int))))), ?_⟩
  refine q_asg (v := .int (st : Int)) (ev_var rfl) fun H1 e1 => ?_
  show tSeq _ _ _ [some (.ref a), some (.int (st : Int)), some (.int (stop : Int)), some (.int (st : Int)), none, none, none, none, none] _
  refine q_forR1 (n := ((stop - st : Nat) : Int)) (ea_cons (Ev.is (ev_I0 (g := fun i j => .int (i - j)) (ev_var rfl) (ev_var rfl)) (congrArg V.int (by omega))) ea_nil) (by omega) (fun i σ' H' => ∃ (at_ : Nat) (tx : List Nat) (z4 z5 z6 z7 z8 : Option V), σ' = [some (.ref a), some (.int (st : Int)), some (.int (stop : Int)), some (.int (at_ : Int)), z4, z5, z6, z7, z8] ∧ Ex H H' ∧ at_ ≤ stop ∧ rdR ds stop (stop - st - i) at_ tx = rdT ds st stop) (fun H2 e2 => ⟨st, [], none, none, none, none, none, rfl, e1.trans e2, hle, rfl⟩) ?_ ?_
  · rintro i σ' H2 hi ⟨at_, tx, z4, z5, z6, z7, z8, rfl, ex, hat, hO⟩
    obtain ⟨f, hf⟩ : ∃ f, stop - st - i = f + 1 := ⟨stop - st - i - 1, by omega⟩
    have hf2 : stop - st - (i + 1) = f := by omega
    rw [hf] at hO
    rw [hf2]
    refine s_when (b := decide (at_ < stop)) (et_is (et_test (ev_I0 (g := fun i j => .bl (decide (i < j))) (ev_var rfl) (ev_var rfl))) (decide_eq_decide.mpr (by omega))) (fun hlt H3 e3 => ?_) fun hlt H3 e3 => ⟨at_, tx, _, _, _, _, _, rfl, ex.trans e3, hat, by rw [← hO, rdR_end (by have := of_decide_eq_false hlt; omega), rdR_end (by have := of_decide_eq_false hlt; omega)]⟩
    have hlt := of_decide_eq_true hlt
    rw [rdR_succ, if_pos hlt] at hO
    have hd : ds[at_]? = some (ds.getD at_ 0) := by rw [List.getD_eq_getElem?_getD, List.getElem?_eq_getElem (by omega)]; rfl
    have hd256 := hb _ (List.mem_of_getElem? hd)
    unfold seqF at hO
    generalize ds.getD at_ 0 = d at *
    obtain ⟨n, hn⟩ : ∃ n, cntT d = n := ⟨_, rfl⟩
    have hn4 : n ≤ 4 := by rw [← hn]; exact cntT_le d
    rw [hn] at hO
    have byte : ∀ {σ : L2.St} {H' : Hp}, σ[0]? = some (some (.ref a)) → σ[3]? = some (some (.int (at_ : Int))) → Ex H H' → Ev (tOp (rIxL K) (tVar 0) (tVar 3)) σ H' (.int (d : Int)) := fun h1 h2 e => ev_at (K := K) (n := (at_ : Int)) (Ev.s (ev_var h1) (ex_l e hS)) (ev_var h2) (at_of (j := at_) rfl (at_int (cs_at hd)))
    have ex3 := ex.trans e3
    refine q_asg (v := .int (n : Int)) (Ev.is (ev_llen (byte rfl rfl ex3)) (by rw [hn])) fun H4 e4 => ?_
    have ex4 := ex3.trans e4
    refine q_when (b := decide (n = 0 ∨ stop < at_ + n)) (et_is (et_or (a := decide (n = 0)) (b := decide (stop < at_ + n)) (et_is (et_test (ev_eq (x := .int (n : Int)) (y := .int 0) (ev_var rfl) ev_c rfl)) (decide_eq_decide.mpr ⟨fun h => by have := V.int.inj h; omega, fun h => by rw [h]; rfl⟩)) fun _ => et_is (et_test (ev_I0 (g := fun i j => .bl (decide (j < i))) (ev_I0 (g := fun i j => .int (i + j)) (ev_var rfl) (ev_var rfl)) (ev_var rfl))) (decide_eq_decide.mpr (by omega))) (by rw [Bool.decide_or])) (fun hc H5 e5 => ?_) fun hc H5 e5 => ?_
    · rw [if_pos (of_decide_eq_true hc)] at hO
      rw [← hO] at k
      exact s_ret (v := .int (at_ : Int)) (ev_var rfl) fun H6 e6 => k H6 (ex4.trans (e5.trans e6))
    have hc := of_decide_eq_false hc
    rw [if_neg hc] at hO
    obtain ⟨xs, hxs⟩ : ∃ xs, (ds.drop (at_ + 1)).take (n - 1) = xs := ⟨_, rfl⟩
    rw [hxs] at hO
    have hxl : xs.length = n - 1 := by rw [← hxs, List.length_take, List.length_drop]; omega
    rw [seqP_hv hn.symm (by omega) hxl] at hO
    have ex5 := ex4.trans e5
    refine q_asgL (xs := (cs xs).map V.int) (EvL.is (el_mid (i := at_ + 1) (j := at_ + n) (Ev.s (ev_var rfl) (ex_l ex5 hS)) (Ev.is (ev_I0 (g := fun i j => .int (i + j)) (ev_var rfl) ev_c) (congrArg V.int (by omega))) (Ev.is (ev_I0 (g := fun i j => .int (i + j)) (ev_var rfl) (ev_var rfl)) (congrArg V.int (by omega)))) (by rw [cs_drop, cs_take, ← hxs, show at_ + n - (at_ + 1) = n - 1 by omega])) fun pr H6 hpr e6 gr => ?_
    have ex6 := ex5.trans e6
    refine q_when (b := !xs.all okB) (et_is (et_not (et_B (ev_all (bs := xs.map okB) (b := xs.all okB) (EvR.s (EvL.r (EvL.is (xs := (xs.map okB).map V.bl) (el_lcS (xs := (cs xs).map V.int) _ (Ev.s (ev_var rfl) (sq_of gr)) (by rw [List.length_map, List.length_map, List.length_map, cs_len]) (by rw [List.length_map, List.length_map]; omega) (fun _ => rfl) fun i x H4 e4 hx => ?_) rfl))) (by rw [List.all_map]; rfl)))) rfl) (fun hf H7 e7 => ?_) fun hf H7 e7 => ?_
    · obtain ⟨b, hb', hi, rfl⟩ := cs_get hx
      refine ⟨.bl (okB b), by rw [List.getElem?_map, List.getElem?_map, hb']; rfl, Ev.is (ev_chain (g := fun i j => decide (i ≤ j)) (g' := fun i j => decide (i < j)) ev_c (ev_var rfl) ev_c) (congrArg V.bl ?_)⟩
      unfold okB
      rw [Bool.eq_iff_iff, Bool.and_eq_true, Bool.and_eq_true, decide_eq_true_iff, decide_eq_true_iff, decide_eq_true_iff, decide_eq_true_iff]
      omega
    · rw [if_neg (by rw [Bool.not_eq_true'] at hf; rw [hf]; decide)] at hO
      rw [← hO] at k
      exact s_ret (v := .int (at_ : Int)) (ev_var rfl) fun H8 e8 => k H8 (ex6.trans (e7.trans e8))
    have hf : xs.all okB = true := by rwa [Bool.not_eq_false'] at hf
    rw [if_pos hf] at hO
    have hall := List.all_eq_true.mp hf
    have ex7 := ex6.trans e7
    have gr7 := e7 _ _ gr
    obtain ⟨mk, hmk1, hmk2⟩ := mask_hv hn.symm hd256 (by omega)
    refine q_asg (v := .int ((hv d n : Nat) : Int)) (Ev.is (ev_I0 (g := fun i j => .int (Builtin.bitAnd i j)) (byte rfl rfl ex7) (ev_at (K := K) (n := (n : Int)) (v := .int (mk : Int)) (EvR.s (EvL.r (el_lst (vs := (cs [0, 127, 31, 15, 7]).map V.int) (ea_cons ev_c (ea_cons ev_c (ea_cons ev_c (ea_cons ev_c (ea_cons ev_c ea_nil))))) (by decide)))) (ev_var rfl) (at_of (j := n) rfl (at_int (cs_at hmk1))))) (congrArg V.int hmk2)) fun H8 e8 => ?_
    have ex8 := ex7.trans e8
    have gr8 := e8 _ _ gr7
    show tSeq _ _ _ [some (.ref a), some (.int (st : Int)), some (.int (stop : Int)), some (.int (at_ : Int)), some (.int (i : Int)), some (.int (n : Int)), some (.ref pr), z7, some (.int ((hv d n : Nat) : Int))] _
    refine q_forLn (K := K) (a := pr) (xs := (cs xs).map V.int) (ev_var rfl) (sq_of gr8) (fun j σ' H' => ∃ z : Option V, σ' = [some (.ref a), some (.int (st : Int)), some (.int (stop : Int)), some (.int (at_ : Int)), some (.int (i : Int)), some (.int (n : Int)), some (.ref pr), z, some (.int ((foldP (hv d n) (xs.take j) : Nat) : Int))] ∧ Ex H8 H') (fun H9 e9 => ⟨z7, rfl, e9⟩) (fun j σ' H' _ h => by obtain ⟨_, _, e⟩ := h; exact sq_of (e _ _ gr8)) ?_ ?_
    · rintro j x σ' H9 hx ⟨z, rfl, e9⟩
      obtain ⟨b, hb', hj, rfl⟩ := cs_get hx
      have hf2 := okB_iff (hall b (List.mem_of_getElem? hb'))
      have htk : xs.take (j + 1) = xs.take j ++ [b] := take_at hb'
      exact s_asg (v := .int ((foldP (hv d n) (xs.take (j + 1)) : Nat) : Int)) (Ev.is (ev_I0 (g := fun i j => .int (i - j)) (ev_I0 (g := fun i j => .int (i + j)) (ev_I (ev_var rfl) ev_c (.inr (by decide))) (ev_var rfl)) ev_c) (congrArg V.int (by rw [htk, foldP_snoc]; omega))) fun H10 e10 => ⟨_, rfl, e9.trans e10⟩
    · rintro σ' H9 ⟨z, rfl, e9⟩
      rw [List.length_map, cs_len, List.take_length]
      generalize foldP (hv d n) xs = p at *
      have ex9 := ex8.trans e9
      refine q_when (b := badQ n p) (et_is (et_or (a := decide (p < mnN n)) (b := decide (1114111 < p) || (decide (55296 ≤ p) && decide (p < 57344))) (et_is (et_test (ev_I0 (g := fun i j => .bl (decide (i < j))) (ev_var rfl) (ev_at (K := K) (n := (n : Int)) (v := .int ((mnN n : Nat) : Int)) (EvR.s (EvL.r (el_lst (vs := (cs [0, 0, 128, 2048, 65536]).map V.int) (ea_cons ev_c (ea_cons ev_c (ea_cons ev_c (ea_cons ev_c (ea_cons ev_c ea_nil))))) (by decide)))) (ev_var rfl) (at_of (j := n) rfl (at_int (cs_at (min_at1 (by omega) hn4))))))) (decide_eq_decide.mpr (by omega))) fun _ => et_or (a := decide (1114111 < p)) (b := decide (55296 ≤ p) && decide (p < 57344)) (et_is (et_test (ev_I0 (g := fun i j => .bl (decide (j < i))) (ev_var rfl) ev_c)) (decide_eq_decide.mpr (by omega))) fun _ => et_is (et_test (ev_chain (g := fun i j => decide (i ≤ j)) (g' := fun i j => decide (i < j)) ev_c (ev_var rfl) ev_c)) ?_) rfl) (fun hb H10 e10 => ?_) fun hb H10 e10 => ?_
      · rw [Bool.eq_iff_iff, Bool.and_eq_true, Bool.and_eq_true, decide_eq_true_iff, decide_eq_true_iff, decide_eq_true_iff, decide_eq_true_iff]
        omega
      · rw [if_pos hb] at hO
        rw [← hO] at k
        exact s_ret (v := .int (at_ : Int)) (ev_var rfl) fun H11 e11 => k H11 (ex9.trans (e10.trans e11))
      · rw [if_neg (by rw [hb]; decide)] at hO
        exact s_asg (v := .int ((at_ + n : Nat) : Int)) (Ev.is (ev_I0 (g := fun i j => .int (i + j)) (ev_var rfl) (ev_var rfl)) (congrArg V.int (by omega))) fun H11 e11 => ⟨at_ + n, tx ++ [p], _, _, _, _, _, rfl, ex9.trans (e10.trans e11), by omega, hO⟩
  · rintro σ' H2 ⟨at_, tx, z4, z5, z6, z7, z8, rfl, ex, hat, hO⟩
    rw [Int.toNat_natCast, Nat.sub_self] at hO
    rw [← hO] at k
    exact s_ret (v := .int (-1)) (ev_negI ev_c) fun H3 e3 => k H3 (ex.trans e3)
theorem ev_ltf {σ : L2.St} {H : Hp} {t1 t2 t3 : TE} {E : XK} {a : Addr} {ds : List Nat} {st stop : Nat} (h1 : Ev t1 σ H (.ref a)) (hS : SqL K H a ((cs ds).map V.int)) (h2 : Ev t2 σ H (.int (st : Int))) (h3 : Ev t3 σ H (.int (stop : Int))) (hl : ds.length ≤ 1000) (hb : ∀ d ∈ ds, d < 256) (hle : st ≤ stop) (hs : stop ≤ ds.length) : Ev (tCall (sp_ltf K) [] E (tCons t1 (tCons t2 (tCons t3 tNil)))) σ H (.int (rdV (rdT ds st stop))) :=
  ev_call (ea_cons h1 (ea_cons h2 (ea_cons h3 ea_nil))) fun H1 e Q q _ => ⟨a, ds, st, stop, rfl, ex_l e hS, hl, hb, hle, hs, q⟩
def sp_lnu (K : PySem.W.Frag) : Sp := fun vs H Q _ => ∃ (p : Addr) (ds : List Nat) (a : Nat), vs = [.ref p, .int (a : Int)] ∧ SqL K H p ((cs ds).map V.int) ∧ a + 4 ≤ ds.length ∧ RetV (.int (numN ds a : Int)) H Q
theorem ok_law_number (T : TX K mg) : FnOk P w K mg base CX0 1 T.a_law_number T.d_law_number ["data", "at"] (sp_lnu K) := by
  refine T.F_law_number.ok sc_law_number (fun vs H Q E h => by obtain ⟨p, ds, a, rfl, _⟩ := h; rfl) (fun cdv A outer s0 H vs Q E hr h => ?_)
  obtain ⟨p, ds, a, rfl, hS, hl, k⟩ := h
  refine ⟨_, (pss_one (ps_ret (pe_op op_add (pe_op op_add (pe_op op_add (pe_ix (r := rIxL K) ix_list (pv 0) (pv 1) (fun _ _ => rfl)) (pe_op op_mul pe_int (pe_ix (r := rIxL K) ix_list (pv 0) (pe_op op_add (pv 1) pe_int) (fun _ _ => rfl)))) (pe_op op_mul pe_int (pe_ix (r := rIxL K) ix_list (pv 0) (pe_op op_add (pv 1) pe_int) (fun _ _ => rfl)))) (pe_op op_mul pe_int (pe_ix (r := rIxL K) ix_list (pv 0) (pe_op op_add (pv 1) pe_int) (fun _ _ => rfl)))))), ?_⟩
  have at_ : ∀ {ti : TE} {H' : Hp} (j : Nat), j < 4 → Ev ti [some (.ref p), some (.int (a : Int))] H' (.int ((a + j : Nat) : Int)) → Ex H H' → Ev (tOp (rIxL K) (tVar 0) ti) [some (.ref p), some (.int (a : Int))] H' (.int (ds.getD (a + j) 0 : Int)) := fun {ti H'} j hj hi e => ev_at (K := K) (n := ((a + j : Nat) : Int)) (Ev.s (ev_var rfl) (ex_l e hS)) hi (at_of (j := a + j) rfl (at_int (cs_at (by rw [List.getD_eq_getElem?_getD, List.getElem?_eq_getElem (by omega)]; rfl))))
  have ad : ∀ {H' : Hp} (j : Nat), Ev (tOp (rI0 fun i j => .int (i + j)) (tVar 1) (tC (.int (j : Int)))) [some (.ref p), some (.int (a : Int))] H' (.int ((a + j : Nat) : Int)) := fun j => Ev.is (ev_I0 (g := fun i j => .int (i + j)) (ev_var rfl) ev_c) (congrArg V.int (by omega))
  refine s_ret (v := .int (numN ds a : Int)) (Ev.is (ev_I0 (g := fun i j => .int (i + j)) (ev_I0 (g := fun i j => .int (i + j)) (ev_I0 (g := fun i j => .int (i + j)) (at_ 0 (by decide) (ev_var rfl) (Ex.refl _)) (ev_I ev_c (at_ 1 (by decide) (ad 1) (Ex.refl _)) (.inl (by decide)))) (ev_I ev_c (at_ 2 (by decide) (ad 2) (Ex.refl _)) (.inl (by decide)))) (ev_I ev_c (at_ 3 (by decide) (ad 3) (Ex.refl _)) (.inl (by decide)))) (congrArg V.int ?_)) fun H1 e1 => k.go e1
  unfold numN
  rw [Nat.add_zero]
  omega

-- K51E
/-! ### the law's entries, what it expects -/
def fltD (f : Flt) : PyData := .tuple [.str "error", .bool f.1, .bool (!f.1), .int (f.2 : Int)]
def FltV (H : Hp) (v : V) (f : Flt) : Prop := ∃ t, v = .ref t ∧ H t = some (.tup [.str "error", .bl f.1, .bl (!f.1), .int (f.2 : Int)])
theorem FltV.dp {H : Hp} {v : V} {f : Flt} (h : FltV H v f) : Dp K H v (fltD f) := by
  obtain ⟨t, rfl, g⟩ := h
  exact .tup (st_of g) (.cons (.str _) (.cons (.bl _) (.cons (.bl _) (.cons (.int _) .nil))))
theorem s_flt {σ : L2.St} {H : Hp} {t4 : TE} {D : Ends} {b c : Bool} {n : Nat} (hc : c = !b) (h : Ev t4 σ H (.int (n : Int))) (k : ∀ v H1, Ex H H1 → FltV H1 v (b, n) → D.rt v H1) : tRet (tTup (tCons (tC (.str "error")) (tCons (tC (.bl b)) (tCons (tC (.bl c)) (tCons t4 tNil))))) D σ H :=
  s_retU (xs := [.str "error", .bl b, .bl c, .int (n : Int)]) (eu_tup (ea_cons ev_c (ea_cons ev_c (ea_cons ev_c (ea_cons h ea_nil)))) (Nat.le_of_ble_eq_true rfl)) fun t H1 ht e1 g1 => k _ H1 e1 ⟨t, rfl, by rw [g1, hc]⟩
def EfV (H : Hp) (v : V) (r : Except Flt Ne) : Prop := match r with | .ok _ => v = .non | .error f => FltV H v f
def sp_lef (K : PySem.W.Frag) : Sp := fun vs H Q _ => ∃ (p : Addr) (ds : List Nat) (a e : Nat), vs = [.ref p, .int (a : Int), .int (e : Int)] ∧ SqL K H p ((cs ds).map V.int) ∧ ds.length ≤ 1000 ∧ (∀ d ∈ ds, d < 256) ∧ a + 4 ≤ e ∧ e ≤ ds.length ∧ ∀ v H', Ex H H' → EfV H' v (entR ds a e) → Q v H'
theorem ok_law_entry_fault (T : TX K mg) : FnOk P w K mg base CX0 3 T.a_law_entry_fault T.d_law_entry_fault ["data", "at", "end"] (sp_lef K) := by
  refine T.F_law_entry_fault.ok sc_law_entry_fault (fun vs H Q E h => by obtain ⟨p, ds, a, e, rfl, _⟩ := h; rfl) (fun cdv A outer s0 H vs Q E hr h => ?_)
  obtain ⟨p, ds, a, e, rfl, hS, hdl, hb, hae, hel, k⟩ := h
  refine ⟨_, (pss_cons (ps_set (i := 3) sc_law_entry_fault.nd rfl (Or.inl rfl) (pe_op op_add (pv 1) pe_int))
      (pss_cons (ps_for PassesOwn.never rfl (pi_range1 (by rfl) T.m_range (pa_cons (pe_op op_sub (pv 2) (pv 1)) pa_nil)) (pg_name (i := 4) sc_law_entry_fault.nd rfl (Or.inl rfl)) (pss_one (ps_if (pt_cmpR op_lt (pv 3) (pv 2) (nomark _)) (pss_one (ps_if (pt_cmpR op_ne (pe_ix (r := rIxL K) ix_list (pv 0) (pv 3) (fun _ _ => rfl)) pe_int (nomark _)) (pss_one (ps_set (i := 3) sc_law_entry_fault.nd rfl (Or.inl rfl) (pe_op op_add (pv 3) pe_int))) pss_nil)) pss_nil)))
      (pss_cons (ps_if (PW.pt (pw_or (pt_cmpR op_eq (pv 3) (pv 2) (nomark _)) (pw_or1 (pt_cmpR op_eq (pv 3) (pe_op op_add (pv 1) pe_int) (nomark _))))) (pss_one (ps_ret (pe_tup (pa_cons pe_str (pa_cons pe_bl (pa_cons pe_bl (pa_cons (pv 1) pa_nil))))))) pss_nil)
      (pss_cons (ps_for PassesOwn.never rfl (pi_range2 (by rfl) T.m_range (pa_cons (pe_op op_add (pv 1) pe_int) (pa_cons (pv 3) pa_nil))) (pg_name (i := 4) sc_law_entry_fault.nd rfl (Or.inl rfl)) (pss_one (ps_if (pt_not (pt_chain op_le op_le pe_int (pe_ix (r := rIxL K) ix_list (pv 0) (pv 4) (fun _ _ => rfl)) pe_int)) (pss_one (ps_ret (pe_tup (pa_cons pe_str (pa_cons pe_bl (pa_cons pe_bl (pa_cons (pv 4) pa_nil))))))) pss_nil)))
      (pss_cons (ps_set (i := 5) sc_law_entry_fault.nd rfl (Or.inl rfl) (pe_call (ok_law_text_fault T) (hr.mono (by decide)) (by rfl) T.g_law_text_fault T.F_law_text_fault.kp T.b_law_text_fault .nil pass0 (pa_cons (pv 0) (pa_cons (pe_op op_add (pv 3) pe_int) (pa_cons (pv 2) pa_nil)))))
      (pss_cons (ps_if (pt_cmpR op_ge (pv 5) pe_int (nomark _)) (pss_one (ps_ret (pe_tup (pa_cons pe_str (pa_cons pe_bl (pa_cons pe_bl (pa_cons (pv 5) pa_nil))))))) pss_nil)
      (pss_one (ps_ret pe_non)))))))), ?_⟩
  have hcl : (ctN ds a e).length = e - (a + 4) := by unfold ctN; rw [List.length_take, List.length_drop]; omega
  have hle : (ctN ds a e).idxOf 61 ≤ (ctN ds a e).length := List.idxOf_le_length
  have hsp := @idx_split (ctN ds a e) _ rfl
  have hmi := @mem_idx (ctN ds a e)
  have hcat : ∀ {m : Nat}, m < e - (a + 4) → (ctN ds a e)[m]? = ds[a + 4 + m]? := fun {m} h => by unfold ctN; rw [List.getElem?_take, if_pos h, List.getElem?_drop]
  unfold entR at k
  obtain ⟨ct, hct⟩ : ∃ ct, ctN ds a e = ct := ⟨_, rfl⟩
  obtain ⟨i, hi⟩ : ∃ i, ct.idxOf 61 = i := ⟨_, rfl⟩
  rw [hct] at k hcl hle hsp hmi hcat
  rw [hi] at k hle hsp
  refine q_asg (v := .int ((a + 4 : Nat) : Int)) (Ev.is (ev_I0 (g := fun i j => .int (i + j)) (ev_var rfl) ev_c) (congrArg V.int (by omega))) fun H1 e1 => ?_
  show tSeq _ _ _ [some (.ref p), some (.int (a : Int)), some (.int (e : Int)), some (.int ((a + 4 : Nat) : Int)), none, none] _
  refine q_forR1 (n := ((e - a : Nat) : Int)) (ea_cons (Ev.is (ev_I0 (g := fun i j => .int (i - j)) (ev_var rfl) (ev_var rfl)) (congrArg V.int (by omega))) ea_nil) (by omega) (fun j σ' H' => ∃ z4 : Option V, σ' = [some (.ref p), some (.int (a : Int)), some (.int (e : Int)), some (.int ((a + 4 + min j i : Nat) : Int)), z4, none] ∧ Ex H H') (fun H2 e2 => ⟨none, by rw [Nat.zero_min], e1.trans e2⟩) ?_ ?_
  · rintro j σ' H2 hj ⟨z4, rfl, ex⟩
    refine s_when (b := decide (a + 4 + min j i < e)) (et_is (et_test (ev_I0 (g := fun i j => .bl (decide (i < j))) (ev_var rfl) (ev_var rfl))) (decide_eq_decide.mpr (by omega))) (fun hlt H3 e3 => ?_) fun hlt H3 e3 => ⟨_, by rw [show min (j + 1) i = min j i by have := of_decide_eq_false hlt; omega]; rfl, ex.trans e3⟩
    have hlt := of_decide_eq_true hlt
    obtain ⟨m, hm⟩ : ∃ m, min j i = m := ⟨_, rfl⟩
    rw [hm] at hlt
    have hc1 : ct[m]? = some (ct[m]'(by omega)) := List.getElem?_eq_getElem _
    obtain ⟨c, hc⟩ : ∃ c, ct[m]'(by omega) = c := ⟨_, rfl⟩
    rw [hc] at hc1
    have hd1 : ds[a + 4 + m]? = some c := by rw [← hcat (by omega)]; exact hc1
    have ex3 := ex.trans e3
    rw [hm]
    refine s_when (b := !decide (c = 61)) (et_is (et_test (ev_ne (x := .int (c : Int)) (y := .int 61) (ev_at (K := K) (n := ((a + 4 + m : Nat) : Int)) (Ev.s (ev_var rfl) (ex_l ex3 hS)) (ev_var rfl) (at_of (j := a + 4 + m) rfl (at_int (cs_at hd1)))) ev_c rfl)) (congrArg (!·) (decide_eq_decide.mpr ⟨fun h => by have := V.int.inj h; omega, fun h => congrArg V.int (by omega)⟩))) (fun hne H4 e4 => ?_) fun hne H4 e4 => ?_
    · have hne : ¬ c = 61 := by rwa [Bool.not_eq_true', decide_eq_false_iff_not] at hne
      have hmi2 : m ≠ i := by
        rintro rfl
        have := hsp (by omega)
        have h61 : ct[m]? = some 61 := by
          rw [this, List.getElem?_append_right (by rw [List.length_take]; omega), List.length_take, show m - min m ct.length = 0 by omega]
          rfl
        rw [hc1] at h61
        exact hne (Option.some.inj h61)
      exact s_asg (v := .int ((a + 4 + m + 1 : Nat) : Int)) (Ev.is (ev_I0 (g := fun i j => .int (i + j)) (ev_var rfl) ev_c) (congrArg V.int (by omega))) fun H5 e5 => ⟨_, by rw [show min (j + 1) i = m + 1 by omega]; rfl, ex3.trans (e4.trans e5)⟩
    · have hne : c = 61 := by rwa [Bool.not_eq_false', decide_eq_true_iff] at hne
      have hmi2 : ¬ m < i := fun h => hmi hi (x := c) (List.mem_of_getElem? (i := m) (by rw [List.getElem?_take, if_pos h]; exact hc1)) hne
      exact ⟨_, by rw [show min (j + 1) i = m by omega]; rfl, ex3.trans e4⟩
  rintro σ' H2 ⟨z4, rfl, ex⟩
  rw [Int.toNat_natCast, show min (e - a) i = i by omega]
  refine q_when (b := decide (i = ct.length ∨ i = 0)) (et_is (et_or (a := decide (i = ct.length)) (b := decide (i = 0)) (et_is (et_test (ev_eq (x := .int ((a + 4 + i : Nat) : Int)) (y := .int (e : Int)) (ev_var rfl) (ev_var rfl) rfl)) (decide_eq_decide.mpr ⟨fun h => by have := V.int.inj h; omega, fun h => congrArg V.int (by omega)⟩)) fun _ => et_is (et_test (ev_eq (x := .int ((a + 4 + i : Nat) : Int)) (y := .int ((a + 4 : Nat) : Int)) (ev_var rfl) (Ev.is (ev_I0 (g := fun i j => .int (i + j)) (ev_var rfl) ev_c) (congrArg V.int (by omega))) rfl)) (decide_eq_decide.mpr ⟨fun h => by have := V.int.inj h; omega, fun h => congrArg V.int (by omega)⟩)) (by rw [Bool.decide_or])) (fun hc H3 e3 => ?_) fun hc H3 e3 => ?_
  · rw [if_pos (of_decide_eq_true hc)] at k
    exact s_flt (b := true) rfl (ev_var rfl) fun v H4 e4 hv => k v H4 (ex.trans (e3.trans e4)) hv
  have hc := of_decide_eq_false hc
  rw [if_neg hc] at k
  have hlt : i < ct.length := by omega
  have ex3 := ex.trans e3
  obtain ⟨nm, hnm⟩ : ∃ nm, ct.take i = nm := ⟨_, rfl⟩
  have hnl : nm.length = i := by rw [← hnm, List.length_take]; omega
  rw [hnm] at k
  have hat : ∀ {m : Nat}, m < i → ∃ c, nm[m]? = some c ∧ ds[a + 4 + m]? = some c := fun {m} hm => by
    have h1 : nm[m]? = some (nm[m]'(by omega)) := List.getElem?_eq_getElem _
    refine ⟨_, h1, ?_⟩
    rw [← hcat (by omega), ← h1, ← hnm, List.getElem?_take, if_pos hm]
  refine q_forR2 (lo := ((a + 4 : Nat) : Int)) (n := ((a + 4 + i : Nat) : Int)) (ea_cons (Ev.is (ev_I0 (g := fun i j => .int (i + j)) (ev_var rfl) ev_c) (congrArg V.int (by omega))) (ea_cons (ev_var rfl) ea_nil)) (by omega) (fun j σ' H' => ∃ z : Option V, σ' = [some (.ref p), some (.int (a : Int)), some (.int (e : Int)), some (.int ((a + 4 + i : Nat) : Int)), z, none] ∧ Ex H H' ∧ ∀ m c, m < j → nm[m]? = some c → badC c = false) (fun H5 e5 => ⟨z4, rfl, ex3.trans e5, fun m c hm => by omega⟩) ?_ ?_
  · rintro j σ' H5 hj ⟨z, rfl, ex, hgood⟩
    have hji : j < i := by omega
    obtain ⟨c, hc1, hc2⟩ := hat hji
    have byte : Ev (tOp (rIxL K) (tVar 0) (tVar 4)) [some (.ref p), some (.int (a : Int)), some (.int (e : Int)), some (.int ((a + 4 + i : Nat) : Int)), some (.int (((a + 4 : Nat) : Int) + (j : Int))), none] H5 (.int (c : Int)) := ev_at (K := K) (n := ((a + 4 + j : Nat) : Int)) (Ev.s (ev_var rfl) (ex_l ex hS)) (Ev.is (ev_var rfl) (congrArg V.int (by omega))) (at_of (j := a + 4 + j) rfl (at_int (cs_at hc2)))
    refine s_when (b := badC c) (et_is (et_not (et_test (ev_chain (g := fun i j => decide (i ≤ j)) (g' := fun i j => decide (i ≤ j)) ev_c byte ev_c))) (by
      unfold badC
      rw [Bool.eq_iff_iff, Bool.not_eq_true', Bool.and_eq_false_iff, Bool.or_eq_true, decide_eq_false_iff_not, decide_eq_false_iff_not, decide_eq_true_iff, decide_eq_true_iff]
      omega)) (fun hbad H6 e6 => ?_) fun hgd H6 e6 => ⟨_, rfl, ex.trans e6, fun m c' hm hc' => ?_⟩
    · have hfi : nm.findIdx badC = j := by
        rw [List.findIdx_eq (by omega)]
        have hjn : nm[j]'(by omega) = c := by have h1 : nm[j]? = some (nm[j]'(by omega)) := List.getElem?_eq_getElem _; rw [hc1] at h1; exact (Option.some.inj h1).symm
        exact ⟨by rw [hjn]; exact hbad, fun m hm => hgood m _ hm (List.getElem?_eq_getElem (by omega))⟩
      rw [if_pos (by omega), hfi] at k
      exact s_flt (b := false) (n := a + 4 + j) rfl (Ev.is (ev_var rfl) (congrArg V.int (by omega))) fun v H7 e7 hv => k v H7 (ex.trans (e6.trans e7)) hv
    · rcases Nat.lt_succ_iff_lt_or_eq.mp hm with h | rfl
      · exact hgood m c' h hc'
      · rw [hc1] at hc'
        cases hc'
        exact hgd
  · rintro σ' H5 ⟨z, rfl, ex, hgood⟩
    have hfi : ¬ nm.findIdx badC < i := by
      intro h
      have h2 := List.findIdx_getElem (p := badC) (xs := nm) (w := by omega)
      rw [hgood _ _ (by omega) (List.getElem?_eq_getElem (by omega))] at h2
      cases h2
    rw [if_neg hfi] at k
    refine q_asg (v := .int (rdV (rdT ds (a + 4 + i + 1) e))) (ev_ltf (ev_var rfl) (ex_l ex hS) (Ev.is (ev_I0 (g := fun i j => .int (i + j)) (ev_var rfl) ev_c) (congrArg V.int (show _ = ((a + 4 + i + 1 : Nat) : Int) by omega))) (ev_var rfl) hdl hb (by omega) hel) fun H6 e6 => ?_
    cases hr2 : rdT ds (a + 4 + i + 1) e with
    | error n =>
      rw [hr2] at k
      refine q_when (b := true) (et_is (et_test (ev_I0 (g := fun i j => .bl (decide (j ≤ i))) (ev_var rfl) ev_c)) (decide_eq_true (show (0 : Int) ≤ (n : Int) by omega))) (fun _ H7 e7 => ?_) fun h => by cases h
      exact s_flt (b := false) (n := n) rfl (ev_var rfl) fun v H8 e8 hv => k v H8 (ex.trans (e6.trans (e7.trans e8))) hv
    | ok tx =>
      rw [hr2] at k
      refine q_when (b := false) (et_is (et_test (ev_I0 (g := fun i j => .bl (decide (j ≤ i))) (ev_var rfl) ev_c)) (decide_eq_false (show ¬ (0 : Int) ≤ -1 by decide))) (fun h => by cases h) fun _ H7 e7 => ?_
      exact s_ret ev_c fun H8 e8 => k _ H8 (ex.trans (e6.trans (e7.trans e8))) rfl

-- K51F
theorem s_retD {te : TE} {σ : L2.St} {H : Hp} {d : PyData} {D : Ends} (h : EvD K te σ H d) (k : ∀ v H1, Ex H H1 → Dp K H1 v d → D.rt v H1) : tRet te D σ H := h H (Ex.refl H) _ k
theorem ev_lnu {σ : L2.St} {H : Hp} {t1 t2 : TE} {E : XK} {p : Addr} {ds : List Nat} {a : Nat} (h1 : Ev t1 σ H (.ref p)) (hS : SqL K H p ((cs ds).map V.int)) (h2 : Ev t2 σ H (.int (a : Int))) (hl : a + 4 ≤ ds.length) : Ev (tCall (sp_lnu K) [] E (tCons t1 (tCons t2 tNil))) σ H (.int (numN ds a : Int)) :=
  ev_call (ea_cons h1 (ea_cons h2 ea_nil)) fun H1 e Q q _ => ⟨p, ds, a, rfl, ex_l e hS, hl, q⟩
theorem entsR_many {ds : List Nat} {stop : Nat} : ∀ (n a : Nat) (l : List Ne), a ≤ stop → stop - a < 4 * n → ∃ f, ∀ m, stop - a < 4 * m → entsR ds stop m a l = .error f
  | 0, a, l, _, h => by omega
  | n + 1, a, l, ha, h => by
    cases hn : lenF ds a stop with
    | none => exact ⟨(true, a), fun m hm => by
        obtain ⟨m', rfl⟩ : ∃ m', m = m' + 1 := ⟨m - 1, by omega⟩
        rw [entsR_succ, hn]⟩
    | some len =>
      obtain ⟨k1, k2⟩ := lenF_some hn
      cases he : entR ds a (a + 4 + len) with
      | error f => exact ⟨f, fun m hm => by
          obtain ⟨m', rfl⟩ : ∃ m', m = m' + 1 := ⟨m - 1, by omega⟩
          rw [entsR_succ, hn]
          simp only [he]⟩
      | ok e =>
        obtain ⟨f, hf⟩ := entsR_many (ds := ds) n (a + 4 + len) (l ++ [e]) k2 (by omega)
        exact ⟨f, fun m hm => by
          obtain ⟨m', rfl⟩ : ∃ m', m = m' + 1 := ⟨m - 1, by omega⟩
          rw [entsR_succ, hn]
          simp only [he]
          exact hf m' (by omega)⟩
theorem entsR_min {ds : List Nat} {stop a n k : Nat} {l : List Ne} (ha : a ≤ stop) (hk : stop - a < 4 * k) : entsR ds stop (min n k) a l = entsR ds stop n a l := by
  by_cases h : n ≤ k
  · rw [Nat.min_eq_left h]
  · obtain ⟨f, hf⟩ := entsR_many (ds := ds) k a l ha hk
    rw [Nat.min_eq_right (by omega), hf k hk, hf n (by omega)]
def cmD (ds : List Nat) (st stop : Nat) : PyData := match cmR ds st stop with
  | .error f => fltD f
  | .ok _ => .tuple [.str "body", .list ((cs ((ds.drop st).take (stop - st))).map PyData.int)]
def sp_lex (K : PySem.W.Frag) : Sp := fun vs H Q _ => ∃ (p : Addr) (ds : List Nat) (st stop : Nat), vs = [.ref p, .int (st : Int), .int (stop : Int)] ∧ SqL K H p ((cs ds).map V.int) ∧ ds.length ≤ 1000 ∧ (∀ d ∈ ds, d < 256) ∧ st ≤ stop ∧ stop ≤ ds.length ∧ ∀ v H', Ex H H' → Dp K H' v (cmD ds st stop) → Q v H'
theorem ok_law_expected (T : TX K mg) : FnOk P w K mg base CX0 4 T.a_law_expected T.d_law_expected ["data", "start", "stop"] (sp_lex K) := by
  refine T.F_law_expected.ok sc_law_expected (fun vs H Q E h => by obtain ⟨p, ds, st, stop, rfl, _⟩ := h; rfl) (fun cdv A outer s0 H vs Q E hr h => ?_)
  obtain ⟨p, ds, st, stop, rfl, hS, hdl, hb, hle, hsl, k⟩ := h
  refine ⟨_, (pss_cons (ps_if (PW.pt (pw_or (pt_cmpR op_gt (pe_op op_add (pv 1) pe_int) (pv 2) (nomark _)) (pw_or1 (pt_cmpR op_gt (pe_op op_add (pe_op op_add (pv 1) pe_int) (pe_call (ok_law_number T) (hr.mono (by decide)) (by rfl) T.g_law_number T.F_law_number.kp T.b_law_number .nil pass0 (pa_cons (pv 0) (pa_cons (pv 1) pa_nil)))) (pv 2) (nomark _))))) (pss_one (ps_ret (pe_tup (pa_cons pe_str (pa_cons pe_bl (pa_cons pe_bl (pa_cons (pv 1) pa_nil))))))) pss_nil)
      (pss_cons (ps_set (i := 3) sc_law_expected.nd rfl (Or.inl rfl) (pe_op op_add (pe_op op_add (pv 1) pe_int) (pe_call (ok_law_number T) (hr.mono (by decide)) (by rfl) T.g_law_number T.F_law_number.kp T.b_law_number .nil pass0 (pa_cons (pv 0) (pa_cons (pv 1) pa_nil)))))
      (pss_cons (ps_set (i := 4) sc_law_expected.nd rfl (Or.inl rfl) (pe_call (ok_law_text_fault T) (hr.mono (by decide)) (by rfl) T.g_law_text_fault T.F_law_text_fault.kp T.b_law_text_fault .nil pass0 (pa_cons (pv 0) (pa_cons (pe_op op_add (pv 1) pe_int) (pa_cons (pv 3) pa_nil)))))
      (pss_cons (ps_if (pt_cmpR op_ge (pv 4) pe_int (nomark _)) (pss_one (ps_ret (pe_tup (pa_cons pe_str (pa_cons pe_bl (pa_cons pe_bl (pa_cons (pv 4) pa_nil))))))) pss_nil)
      (pss_cons (ps_if (pt_cmpR op_gt (pe_op op_add (pv 3) pe_int) (pv 2) (nomark _)) (pss_one (ps_ret (pe_tup (pa_cons pe_str (pa_cons pe_bl (pa_cons pe_bl (pa_cons (pv 3) pa_nil))))))) pss_nil)
      (pss_cons (ps_set (i := 5) sc_law_expected.nd rfl (Or.inl rfl) (pe_call (ok_law_number T) (hr.mono (by decide)) (by rfl) T.g_law_number T.F_law_number.kp T.b_law_number .nil pass0 (pa_cons (pv 0) (pa_cons (pv 3) pa_nil))))
      (pss_cons (ps_set (i := 3) sc_law_expected.nd rfl (Or.inl rfl) (pe_op op_add (pv 3) pe_int))
      (pss_cons (ps_for PassesOwn.never rfl (pi_range1 (by rfl) T.m_range (pa_cons (pe_callB (call_min2 rfl) (by rfl) T.m_min PyProof.Rows.boot_min (pa_cons (pv 5) (pa_cons (pe_op op_add (pe_op op_sub (pv 2) (pv 1)) pe_int) pa_nil))) pa_nil)) (pg_name (i := 6) sc_law_expected.nd rfl (Or.inl rfl)) (pss_cons (ps_if (PW.pt (pw_or (pt_cmpR op_gt (pe_op op_add (pv 3) pe_int) (pv 2) (nomark _)) (pw_or1 (pt_cmpR op_gt (pe_op op_add (pe_op op_add (pv 3) pe_int) (pe_call (ok_law_number T) (hr.mono (by decide)) (by rfl) T.g_law_number T.F_law_number.kp T.b_law_number .nil pass0 (pa_cons (pv 0) (pa_cons (pv 3) pa_nil)))) (pv 2) (nomark _))))) (pss_one (ps_ret (pe_tup (pa_cons pe_str (pa_cons pe_bl (pa_cons pe_bl (pa_cons (pv 3) pa_nil))))))) pss_nil)
        (pss_cons (ps_set (i := 7) sc_law_expected.nd rfl (Or.inl rfl) (pe_op op_add (pe_op op_add (pv 3) pe_int) (pe_call (ok_law_number T) (hr.mono (by decide)) (by rfl) T.g_law_number T.F_law_number.kp T.b_law_number .nil pass0 (pa_cons (pv 0) (pa_cons (pv 3) pa_nil)))))
        (pss_cons (ps_set (i := 8) sc_law_expected.nd rfl (Or.inl rfl) (pe_call (ok_law_entry_fault T) (hr.mono (by decide)) (by rfl) T.g_law_entry_fault T.F_law_entry_fault.kp T.b_law_entry_fault .nil pass0 (pa_cons (pv 0) (pa_cons (pv 3) (pa_cons (pv 7) pa_nil)))))
        (pss_cons (ps_if (pt_cmpR op_notN1 (pv 8) pe_non (nomark _)) (pss_one (ps_ret (pv 8))) pss_nil)
        (pss_one (ps_set (i := 3) sc_law_expected.nd rfl (Or.inl rfl) (pv 7))))))))
      (pss_cons (ps_if (pt_cmpR op_lt (pv 3) (pv 2) (nomark _)) (pss_one (ps_ret (pe_tup (pa_cons pe_str (pa_cons pe_bl (pa_cons pe_bl (pa_cons (pv 3) pa_nil))))))) pss_nil)
      (pss_one (ps_ret (pe_tup (pa_cons pe_str (pa_cons (pe_slice (r := rSlL K) sl_list (pv 0) (po_some (pv 1)) (po_some (pv 2))) pa_nil)))))))))))))), ?_⟩
  have num : ∀ {σ : L2.St} {H' : Hp} {E : XK} {ti : TE} {a : Nat}, σ[0]? = some (some (.ref p)) → Ex H H' → Ev ti σ H' (.int (a : Int)) → a + 4 ≤ ds.length → Ev (tCall (sp_lnu K) [] E (tCons (tVar 0) (tCons ti tNil))) σ H' (.int (numN ds a : Int)) := fun h0 e hi hl => ev_lnu (ev_var h0) (ex_l e hS) hi hl
  unfold cmD cmR at k
  refine q_when (b := decide (stop < st + 4 ∨ stop < st + 4 + numN ds st)) (et_is (et_or (a := decide (stop < st + 4)) (b := decide (stop < st + 4 + numN ds st)) (et_is (et_test (ev_I0 (g := fun i j => .bl (decide (j < i))) (ev_I0 (g := fun i j => .int (i + j)) (ev_var rfl) ev_c) (ev_var rfl))) (decide_eq_decide.mpr (by omega))) fun hf => et_is (et_test (ev_I0 (g := fun i j => .bl (decide (j < i))) (ev_I0 (g := fun i j => .int (i + j)) (ev_I0 (g := fun i j => .int (i + j)) (ev_var rfl) ev_c) (num rfl (Ex.refl _) (ev_var rfl) (by have := of_decide_eq_false hf; omega))) (ev_var rfl))) (decide_eq_decide.mpr (by omega))) (by rw [Bool.decide_or])) (fun hc H1 e1 => ?_) fun hc H1 e1 => ?_
  · have hn : lenF ds st stop = none := if_pos (of_decide_eq_true hc)
    rw [hn] at k
    exact s_flt (b := true) rfl (ev_var rfl) fun v H2 e2 hv => k v H2 (e1.trans e2) hv.dp
  have hc := of_decide_eq_false hc
  have hn : lenF ds st stop = some (numN ds st) := if_neg hc
  rw [hn] at k
  obtain ⟨len, hlen⟩ : ∃ len, numN ds st = len := ⟨_, rfl⟩
  rw [hlen] at k hc
  refine q_asg (v := .int ((st + 4 + len : Nat) : Int)) (Ev.is (ev_I0 (g := fun i j => .int (i + j)) (ev_I0 (g := fun i j => .int (i + j)) (ev_var rfl) ev_c) (num rfl e1 (ev_var rfl) (by omega))) (congrArg V.int (by omega))) fun H2 e2 => ?_
  have e12 := e1.trans e2
  refine q_asg (v := .int (rdV (rdT ds (st + 4) (st + 4 + len)))) (ev_ltf (ev_var rfl) (ex_l e12 hS) (Ev.is (ev_I0 (g := fun i j => .int (i + j)) (ev_var rfl) ev_c) (congrArg V.int (show _ = ((st + 4 : Nat) : Int) by omega))) (ev_var rfl) hdl hb (by omega) (by omega)) fun H3 e3 => ?_
  have e13 := e12.trans e3
  cases hr2 : rdT ds (st + 4) (st + 4 + len) with
  | error n =>
    simp only [hr2] at k
    refine q_when (b := true) (et_is (et_test (ev_I0 (g := fun i j => .bl (decide (j ≤ i))) (ev_var rfl) ev_c)) (decide_eq_true (show (0 : Int) ≤ (n : Int) by omega))) (fun _ H7 e7 => ?_) fun h => by cases h
    exact s_flt (b := false) (n := n) rfl (ev_var rfl) fun v H8 e8 hv => k v H8 (e13.trans (e7.trans e8)) hv.dp
  | ok vd =>
    simp only [hr2] at k
    refine q_when (b := false) (et_is (et_test (ev_I0 (g := fun i j => .bl (decide (j ≤ i))) (ev_var rfl) ev_c)) (decide_eq_false (show ¬ (0 : Int) ≤ -1 by decide))) (fun h => by cases h) fun _ H4 e4 => ?_
    have e14 := e13.trans e4
    refine q_when (b := decide (stop < st + 4 + len + 4)) (et_is (et_test (ev_I0 (g := fun i j => .bl (decide (j < i))) (ev_I0 (g := fun i j => .int (i + j)) (ev_var rfl) ev_c) (ev_var rfl))) (decide_eq_decide.mpr (by omega))) (fun h5 H5 e5 => ?_) fun h5 H5 e5 => ?_
    · rw [if_pos (of_decide_eq_true h5)] at k
      exact s_flt (b := true) (n := st + 4 + len) rfl (ev_var rfl) fun v H6 e6 hv => k v H6 (e14.trans (e5.trans e6)) hv.dp
    have h5 := of_decide_eq_false h5
    rw [if_neg h5] at k
    have e15 := e14.trans e5
    refine q_asg (v := .int (numN ds (st + 4 + len) : Int)) (num rfl e15 (ev_var rfl) (by omega)) fun H6 e6 => ?_
    obtain ⟨cnt, hcnt⟩ : ∃ cnt, numN ds (st + 4 + len) = cnt := ⟨_, rfl⟩
    obtain ⟨a0, ha0⟩ : ∃ a0, st + 4 + len + 4 = a0 := ⟨_, rfl⟩
    rw [hcnt, ha0] at k
    rw [hcnt]
    refine q_asg (v := .int (a0 : Int)) (Ev.is (ev_I0 (g := fun i j => .int (i + j)) (ev_var rfl) ev_c) (congrArg V.int (by omega))) fun H7 e7 => ?_
    have e17 := e15.trans (e6.trans e7)
    obtain ⟨mc, hmc⟩ : ∃ mc, min cnt (stop - st + 1) = mc := ⟨_, rfl⟩
    have hmin : entsR ds stop mc a0 [] = entsR ds stop cnt a0 [] := by rw [← hmc]; exact entsR_min (by omega) (by omega)
    rw [← hmin] at k
    refine q_forR1 (n := (mc : Int)) (ea_cons (Ev.is (ev_min2 (ev_var rfl) (ev_I0 (g := fun i j => .int (i + j)) (ev_I0 (g := fun i j => .int (i - j)) (ev_var rfl) (ev_var rfl)) ev_c)) (congrArg V.int (by omega))) ea_nil) (by omega) (fun i σ' H' => ∃ (a : Nat) (l : List Ne) (z6 z7 z8 : Option V), σ' = [some (.ref p), some (.int (st : Int)), some (.int (stop : Int)), some (.int (a : Int)), some (.int (-1)), some (.int (cnt : Int)), z6, z7, z8] ∧ Ex H H' ∧ entsR ds stop (mc - i) a l = entsR ds stop mc a0 [] ∧ a ≤ stop) (fun H8 e8 => ⟨a0, [], none, none, none, rfl, e17.trans e8, rfl, by omega⟩) ?_ ?_
    · rintro i σ' H8 hi ⟨a, l, z6, z7, z8, rfl, ex, hR, has⟩
      obtain ⟨m, hm⟩ : ∃ m, mc - i = m + 1 := ⟨mc - i - 1, by omega⟩
      have hm2 : mc - (i + 1) = m := by omega
      rw [hm, entsR_succ] at hR
      rw [hm2]
      refine q_when (b := decide (stop < a + 4 ∨ stop < a + 4 + numN ds a)) (et_is (et_or (a := decide (stop < a + 4)) (b := decide (stop < a + 4 + numN ds a)) (et_is (et_test (ev_I0 (g := fun i j => .bl (decide (j < i))) (ev_I0 (g := fun i j => .int (i + j)) (ev_var rfl) ev_c) (ev_var rfl))) (decide_eq_decide.mpr (by omega))) fun hf => et_is (et_test (ev_I0 (g := fun i j => .bl (decide (j < i))) (ev_I0 (g := fun i j => .int (i + j)) (ev_I0 (g := fun i j => .int (i + j)) (ev_var rfl) ev_c) (num rfl ex (ev_var rfl) (by have := of_decide_eq_false hf; omega))) (ev_var rfl))) (decide_eq_decide.mpr (by omega))) (by rw [Bool.decide_or])) (fun hc H9 e9 => ?_) fun hc H9 e9 => ?_
      · have hn : lenF ds a stop = none := if_pos (of_decide_eq_true hc)
        rw [hn] at hR
        rw [← hR] at k
        exact s_flt (b := true) rfl (ev_var rfl) fun v H2 e2 hv => k v H2 (ex.trans (e9.trans e2)) hv.dp
      have hc := of_decide_eq_false hc
      have hn : lenF ds a stop = some (numN ds a) := if_neg hc
      rw [hn] at hR
      obtain ⟨ln, hln⟩ : ∃ ln, numN ds a = ln := ⟨_, rfl⟩
      rw [hln] at hR hc
      have ex9 := ex.trans e9
      refine q_asg (v := .int ((a + 4 + ln : Nat) : Int)) (Ev.is (ev_I0 (g := fun i j => .int (i + j)) (ev_I0 (g := fun i j => .int (i + j)) (ev_var rfl) ev_c) (num rfl ex9 (ev_var rfl) (by omega))) (congrArg V.int (by omega))) fun H10 e10 => ?_
      have ex10 := ex9.trans e10
      obtain ⟨r, hr'⟩ : ∃ r, entR ds a (a + 4 + ln) = r := ⟨_, rfl⟩
      simp only [hr'] at hR
      refine q_asgRaw (fun v H' => Ex H10 H' ∧ EfV H' v r) (fun Q' q' => (ea_cons (ev_var rfl) (ea_cons (ev_var rfl) (ea_cons (ev_var rfl) ea_nil))) H10 (Ex.refl _) _ fun H11 e11 => ⟨p, ds, a, a + 4 + ln, rfl, ex_l (ex10.trans e11) hS, hdl, hb, by omega, by omega, fun v H12 e12 hv => q' v H12 ⟨e11.trans e12, by rw [← hr']; exact hv⟩⟩) ?_
      rintro v H11 ⟨e11, hv⟩
      cases r with
      | error f =>
        obtain ⟨t, rfl, gt⟩ := hv
        refine q_when (b := true) (et_is (et_test (ev_notN (ev_var rfl))) (by rw [decide_eq_false (fun h => by cases h)]; rfl)) (fun _ H12 e12 => ?_) fun h => by cases h
        rw [← hR] at k
        exact s_ret (v := .ref t) (ev_var rfl) fun H13 e13 => k _ H13 (ex10.trans (e11.trans (e12.trans e13))) (FltV.dp ⟨t, rfl, (e12.trans e13) _ _ gt⟩)
      | ok u =>
        obtain rfl : v = .non := hv
        refine q_when (b := false) (et_is (et_test (ev_notN (ev_var rfl))) (by rw [decide_eq_true rfl]; rfl)) (fun h => by cases h) fun _ H12 e12 => ?_
        exact s_asg (v := .int ((a + 4 + ln : Nat) : Int)) (ev_var rfl) fun H13 e13 => ⟨a + 4 + ln, l ++ [u], _, _, _, rfl, ex10.trans (e11.trans (e12.trans e13)), hR, by omega⟩
    · rintro σ' H8 ⟨a, l, z6, z7, z8, rfl, ex, hR, has⟩
      rw [Int.toNat_natCast, Nat.sub_self, entsR_zero] at hR
      simp only [← hR] at k
      refine q_when (b := decide (a < stop)) (et_is (et_test (ev_I0 (g := fun i j => .bl (decide (i < j))) (ev_var rfl) (ev_var rfl))) (decide_eq_decide.mpr (by omega))) (fun hc H10 e10 => ?_) fun hc H10 e10 => ?_
      · rw [if_pos (of_decide_eq_true hc)] at k
        exact s_flt (b := true) rfl (ev_var rfl) fun v H2 e2 hv => k v H2 (ex.trans (e10.trans e2)) hv.dp
      · rw [if_neg (of_decide_eq_false hc)] at k
        have ex10 := ex.trans e10
        refine s_retD (K := K) (d := .tuple [.str "body", .list ((cs ((ds.drop st).take (stop - st))).map PyData.int)]) (ed_tup2 (EvD.of ev_c (.str _)) (EvS.toD (EvR.s (EvL.r (EvL.is (el_mid (i := st) (j := stop) (Ev.s (ev_var rfl) (ex_l ex10 hS)) (ev_var rfl) (ev_var rfl)) (by rw [cs_drop, cs_take])))))) fun v H11 e11 hv => k v H11 (ex10.trans e11) hv

-- K51G
theorem el_lbN {σ : L2.St} {H : Hp} {t1 t2 : TE} {E : XK} {n c : Nat} (h1 : Ev t1 σ H (.int (n : Int))) (h2 : Ev t2 σ H (.int (c : Int))) (hc : c ≤ 1000) : EvL (tCall sp_lowl [] E (tCons t1 (tCons t2 tNil))) σ H ((cs (lowN n c)).map V.int) := EvL.is (el_lb h1 h2 hc) (by rw [lowB_cs])
def sp_wcm (C : Addr) : Sp := fun vs H Q _ => ∃ (c : Addr) (vd : List Nat) (l : List Ne), vs = [.ref c] ∧ CmN (fun _ => True) C H c (cs vd) (l.map neI) ∧ CmOk vd l ∧ RetL ((cs (cmB vd l)).map V.int) H Q
theorem ok_write_comments (T : TX K mg) : FnOk P w K mg base CX0 4 T.a_write_comments T.d_write_comments ["comments"] (sp_wcm T.C_Comments) := by
  refine T.F_write_comments.ok sc_write_comments (fun vs H Q E h => by obtain ⟨c, vd, l, rfl, _⟩ := h; rfl) (fun cdv A outer s H vs Q E hr h => ?_)
  obtain ⟨c, vd, l, rfl, hC, ⟨hv, hvl, hl, hll, htot⟩, k⟩ := h
  refine ⟨_, (pss_cons (ps_set (i := 1) sc_write_comments.nd rfl (Or.inl rfl) (pe_call (ok_write_utf8 T) (hr.mono (by decide)) (by rfl) T.g_write_utf8 T.F_write_utf8.kp T.b_write_utf8 .nil pass0 (pa_cons (pe_fld (pv 0) rfl) pa_nil)))
      (pss_cons (ps_set (i := 2) sc_write_comments.nd rfl (Or.inl rfl) (pe_op op_cat (pe_op op_cat (pe_call (ok_little_bytes T) (hr.mono (by decide)) (by rfl) T.g_little_bytes T.F_little_bytes.kp T.b_little_bytes .nil pass0 (pa_cons (pe_callB (r := rLenS K) call_len_seq (by rfl) T.m_len PySem.boot_len (pa_cons (pv 1) pa_nil)) (pa_cons pe_int pa_nil))) (pv 1)) (pe_call (ok_little_bytes T) (hr.mono (by decide)) (by rfl) T.g_little_bytes T.F_little_bytes.kp T.b_little_bytes .nil pass0 (pa_cons (pe_callB (r := rLenS K) call_len_seq (by rfl) T.m_len PySem.boot_len (pa_cons (pe_fld (pv 0) rfl) pa_nil)) (pa_cons pe_int pa_nil)))))
      (pss_cons (ps_for PassesOwn.never rfl (pi_list (pe_fld (pv 0) rfl)) (pg_tup rfl (pgs_cons (pg_name (i := 3) sc_write_comments.nd rfl (Or.inl rfl)) (pgs_cons (pg_name (i := 4) sc_write_comments.nd rfl (Or.inl rfl)) pgs_nil))) (pss_cons (ps_set (i := 5) sc_write_comments.nd rfl (Or.inl rfl) (pe_op op_cat (pe_op op_cat (pv 3) (pe_lst (pa_cons (pe_glob (by rfl) T.c_EQUALS T.r_EQUALS) pa_nil))) (pe_call (ok_write_utf8 T) (hr.mono (by decide)) (by rfl) T.g_write_utf8 T.F_write_utf8.kp T.b_write_utf8 .nil pass0 (pa_cons (pv 4) pa_nil))))
        (pss_cons (ps_expr (pe_bm PySem.F.plainAttrs_list PySem.F.slot_list_extend PySem.F.type_list_extend mt_extend (pv 2) (pa_cons (pe_call (ok_little_bytes T) (hr.mono (by decide)) (by rfl) T.g_little_bytes T.F_little_bytes.kp T.b_little_bytes .nil pass0 (pa_cons (pe_callB (r := rLenS K) call_len_seq (by rfl) T.m_len PySem.boot_len (pa_cons (pv 5) pa_nil)) (pa_cons pe_int pa_nil))) pa_nil)))
        (pss_one (ps_expr (pe_bm PySem.F.plainAttrs_list PySem.F.slot_list_extend PySem.F.type_list_extend mt_extend (pv 2) (pa_cons (pv 5) pa_nil)))))))
      (pss_one (ps_ret (pv 2)))))), ?_⟩
  obtain ⟨dx, pv, pe, as, gc, gv, ge, hE⟩ := cm_get hC
  have hcl := cm_len vd l
  refine q_asgL (el_wutf (Ev.s (ev_fld T.cl_Comments T.n_Comments_vendor (ev_var rfl) gc rfl) (sq_of gv)) (by omega) (pt_lt hv)) fun pu H1 hpu e1 gu => ?_
  obtain ⟨D0, hD0⟩ : ∃ D0, lowN (utfB vd).length 4 ++ (utfB vd ++ lowN l.length 4) = D0 := ⟨_, rfl⟩
  have hD0l : D0.length = 8 + (utfB vd).length := by rw [← hD0, List.length_append, List.length_append, lowN_len, lowN_len]; omega
  refine q_asgL (xs := (cs D0).map V.int) (EvL.is (el_cat (EvL.r (el_cat (EvL.r (el_lbN (c := 4) (Ev.is (ev_lenS (K := K) (Ev.s (ev_var rfl) (sq_of gu))) (by rw [List.length_map, cs_len])) ev_c (by decide))) (Ev.r (ev_var rfl) gu) (by rw [List.length_map, cs_len, lowN_len, List.length_map, cs_len]; omega))) (EvL.r (el_lbN (n := l.length) (c := 4) (Ev.is (ev_lenS (K := K) (Ev.s (ev_fld T.cl_Comments T.n_Comments_entries (ev_var rfl) (e1 _ _ gc) rfl) (sq_of (e1 _ _ ge)))) (by rw [List.length_map, hE.1, List.length_map])) ev_c (by decide))) (by rw [List.length_append, List.length_map, cs_len, lowN_len, List.length_map, cs_len, List.length_map, cs_len, lowN_len]; omega)) (by rw [map_cs2, map_cs2, ← hD0, List.append_assoc])) fun pd H2 hpd e2 gd => ?_
  have e12 := e1.trans e2
  have hpdH := fresh_back e1 hpd
  have hwhole : cmB vd l = D0 ++ entsB l := by unfold cmB; rw [hD0]
  rw [hwhole] at k
  show tSeq _ _ _ [some (.ref c), some (.ref pu), some (.ref pd), none, none, none] _
  refine q_forL (K := K) (a := pe) (xs := as.map V.ref) (ev_fld T.cl_Comments T.n_Comments_entries (ev_var rfl) (e12 _ _ gc) rfl) (sq_of (e12 _ _ ge)) (fun i σ' H' => ∃ z3 z4 z5 : Option V, σ' = [some (.ref c), some (.ref pu), some (.ref pd), z3, z4, z5] ∧ Ex H H' ∧ H' pd = some (.lst ((cs (D0 ++ entsB (l.take i))).map V.int))) (fun H3 e3 => ⟨none, none, none, rfl, e12.trans e3, by rw [List.take_zero]; show _ = some (HO.lst ((cs (D0 ++ [])).map V.int)); rw [List.append_nil]; exact e3 _ _ gd⟩) (fun i σ' H' _ h => by obtain ⟨_, _, _, _, ex, _⟩ := h; exact sq_of (ex _ _ ge)) ?_ ?_
  · rintro i x σ' H3 hx ⟨z3, z4, z5, rfl, ex, gp⟩
    obtain ⟨ai, e, hai, hei, rfl, hi, _, pn, pw, q0, _, q1, _, q2⟩ := hE.get hx
    obtain ⟨e', he', rfl⟩ := ne_at hei
    obtain ⟨h1, h2, h3, h4, h5⟩ := hl e' (List.mem_of_getElem? he')
    have hle := entB_le he'
    have hel : (entB e').length = 4 + (oneB e').length := by unfold entB; rw [List.length_append, lowN_len]
    have hol : (oneB e').length = e'.1.length + 1 + (utfB e'.2).length := by unfold oneB; rw [List.length_append, List.length_cons]; omega
    refine ⟨ai, [.ref pn, .ref pw], rfl, st_of (ex _ _ q0), rfl, _, _, rfl, _, _, rfl, rfl, ?_⟩
    refine q_asgL (xs := (cs (oneB e')).map V.int) (EvL.is (el_cat (EvL.r (el_cat (xs := (cs e'.1).map V.int) (Ev.r (ev_var rfl) (ex _ _ q1)) (EvL.r (EvL.is (el_lst (ea_cons ev_c ea_nil) (by decide)) (show _ = (cs [61]).map V.int from rfl))) (by rw [List.length_map, cs_len]; show _ + 1 ≤ _; omega))) (EvL.r (el_wutf (ts := e'.2) (Ev.s (ev_var rfl) (sq_of (ex _ _ q2))) (by omega) (pt_lt h3))) (by rw [List.length_append, List.length_map, cs_len, List.length_map, cs_len, List.length_map, cs_len]; show _ + 1 + _ ≤ _; omega)) (by rw [map_cs2, map_cs2]; unfold oneB; rw [List.append_assoc]; rfl)) fun po H4 hpo e4 go => ?_
    have npd : po ≠ pd := ne_known hpo (by rw [gp]; exact fun z => nomatch z)
    refine q_ext (zs := (cs (lowN (oneB e').length 4)).map V.int) (e4 _ _ gp) (ev_var rfl) (EvL.r (el_lbN (c := 4) (Ev.is (ev_lenS (K := K) (Ev.s (ev_var rfl) (sq_of go))) (by rw [List.length_map, cs_len])) ev_c (by decide))) (by rw [List.length_map, cs_len, List.length_append, List.length_map, cs_len, lowN_len]; omega) fun H5 e5 => ?_
    refine s_ext (zs := (cs (oneB e')).map V.int) upd_same (ev_var rfl) (Ev.r (ev_var rfl) (by rw [upd_ne npd]; exact e5 _ _ go)) (by rw [List.length_append, List.length_map, cs_len, List.length_append, List.length_map, cs_len, lowN_len, List.length_map, cs_len]; omega) fun H6 e6 => ⟨_, _, _, rfl, Ex.mut ((Ex.mut (ex.trans (e4.trans e5)) hpdH).trans e6) hpdH, ?_⟩
    rw [upd_same, map_cs2, map_cs2, entsB_snoc he']
    unfold entB
    simp only [List.append_assoc]
  · rintro σ' H3 ⟨z3, z4, z5, rfl, ex, gp⟩
    rw [List.length_map, hE.1, List.length_map, List.take_length] at gp
    exact s_ret (ev_var rfl) fun H4 e4 => k pd H4 hpdH (ex.trans e4) (e4 _ _ gp)

/-! ### the law's own bytes -/
theorem ok_law_utf8 (T : TX K mg) : FnOk P w K mg base CX0 1 T.a_law_utf8 T.d_law_utf8 ["text"] (sp_wutf K) := by
  refine T.F_law_utf8.ok sc_law_utf8 (fun vs H Q E h => by obtain ⟨a, ts, rfl, _⟩ := h; rfl) (fun cdv A outer s0 H vs Q E hr h => ?_)
  obtain ⟨a, ts, rfl, hS, hl, ht, k⟩ := h
  refine ⟨_, (pss_cons (ps_set (i := 1) sc_law_utf8.nd rfl (Or.inl rfl) (pe_lst pa_nil))
      (pss_cons (ps_for PassesOwn.never rfl (pi_list (pv 0)) (pg_name (i := 2) sc_law_utf8.nd rfl (Or.inl rfl)) (pss_cons (ps_set (i := 3) sc_law_utf8.nd rfl (Or.inl rfl) (pe_op op_add pe_int (pe_op op_and (pv 2) pe_int)))
        (pss_cons (ps_set (i := 4) sc_law_utf8.nd rfl (Or.inl rfl) (pe_op op_add pe_int (pe_op op_and (pe_op op_shr (pv 2) pe_int) pe_int)))
        (pss_one (ps_if (pt_cmpR op_lt (pv 2) pe_int (nomark _)) (pss_one (ps_expr (pe_bm PySem.F.plainAttrs_list PySem.F.slot_list_append PySem.F.type_list_append mt_append (pv 1) (pa_cons (pv 2) pa_nil)))) (pss_one (ps_if (pt_cmpR op_lt (pv 2) pe_int (nomark _)) (pss_one (ps_set (i := 1) sc_law_utf8.nd rfl (Or.inl rfl) (pe_op op_cat (pv 1) (pe_lst (pa_cons (pe_op op_add pe_int (pe_op op_shr (pv 2) pe_int)) (pa_cons (pv 3) pa_nil)))))) (pss_one (ps_if (pt_cmpR op_lt (pv 2) pe_int (nomark _)) (pss_one (ps_set (i := 1) sc_law_utf8.nd rfl (Or.inl rfl) (pe_op op_cat (pv 1) (pe_lst (pa_cons (pe_op op_add pe_int (pe_op op_shr (pv 2) pe_int)) (pa_cons (pv 4) (pa_cons (pv 3) pa_nil))))))) (pss_one (ps_set (i := 1) sc_law_utf8.nd rfl (Or.inl rfl) (pe_op op_cat (pv 1) (pe_lst (pa_cons (pe_op op_add pe_int (pe_op op_shr (pv 2) pe_int)) (pa_cons (pe_op op_add pe_int (pe_op op_and (pe_op op_shr (pv 2) pe_int) pe_int)) (pa_cons (pv 4) (pa_cons (pv 3) pa_nil)))))))))))))))))
      (pss_one (ps_ret (pv 1))))), ?_⟩
  refine q_asgL (xs := []) (el_lst ea_nil (by decide)) fun q H1 hq e1 g1 => ?_
  show tSeq _ _ _ [some (.ref a), some (.ref q), none, none, none] _
  refine q_forLn (K := K) (a := a) (ev_var rfl) (ex_l e1 hS) (fun i σ' H' => ∃ (q : Addr) (z2 z3 z4 : Option V), σ' = [some (.ref a), some (.ref q), z2, z3, z4] ∧ Ex H H' ∧ H q = none ∧ H' q = some (.lst ((cs (utfB (ts.take i))).map V.int))) (fun H2 e2 => ⟨q, none, none, none, rfl, e1.trans e2, hq, e2 _ _ g1⟩) (fun i σ' H' _ h => by obtain ⟨_, _, _, _, _, ex, _⟩ := h; exact ex_l ex hS) ?_ ?_
  · rintro i x σ' H2 hx ⟨q, z2, z3, z4, rfl, ex, hq, gq⟩
    obtain ⟨p, hp, hi, rfl⟩ := cs_get hx
    have hlt := ht p (List.mem_of_getElem? hp)
    have h1 := utfB_len (ts.take i)
    have h2 := ptN_bd p
    have hsn := utfB_snoc hp
    rw [List.length_take] at h1
    have s6 : ∀ {σ : L2.St} {H' : Hp} (j : Nat), σ[2]? = some (some (.int (p : Int))) → Ev (tOp (rI (fun _ j => 0 ≤ j) fun i j => .int (i / 2 ^ j.toNat)) (tVar 2) (tC (.int (j : Int)))) σ H' (.int ((p / 2 ^ j : Nat) : Int)) := fun j h => ev_shrN (ev_var h) ev_c
    refine q_asg (v := .int ((128 + p % 64 : Nat) : Int)) (Ev.is (ev_I0 ev_c (ev_and63 (ev_var rfl))) (congrArg V.int (by omega))) fun H3 e3 => ?_
    refine q_asg (v := .int ((128 + p / 64 % 64 : Nat) : Int)) (Ev.is (ev_I0 ev_c (ev_and63 (s6 6 rfl))) (congrArg V.int (by rw [show (2 : Nat) ^ 6 = 64 from rfl]; omega))) fun H4 e4 => ?_
    have e24 := e3.trans e4
    show tIfS _ _ _ _ [some (.ref a), some (.ref q), some (.int (p : Int)), some (.int ((128 + p % 64 : Nat) : Int)), some (.int ((128 + p / 64 % 64 : Nat) : Int))] _
    have fin : ∀ {te : TE} {bs : List Nat} {H5 : Hp} {D : Ends}, Ex H4 H5 → bs = ptB p → D.nx = (fun σ' H' => ∃ (q : Addr) (z2 z3 z4 : Option V), σ' = [some (.ref a), some (.ref q), z2, z3, z4] ∧ Ex H H' ∧ H q = none ∧ H' q = some (.lst ((cs (utfB (ts.take (i + 1)))).map V.int))) → EvL te [some (.ref a), some (.ref q), some (.int (p : Int)), some (.int ((128 + p % 64 : Nat) : Int)), some (.int ((128 + p / 64 % 64 : Nat) : Int))] H5 ((cs bs).map V.int) → tAsg (tOp rCat (tVar 1) te) (gName 1) D [some (.ref a), some (.ref q), some (.int (p : Int)), some (.int ((128 + p % 64 : Nat) : Int)), some (.int ((128 + p / 64 % 64 : Nat) : Int))] H5 := fun {te bs H5 D} e5 hb hD h => by
      have hbl := ptB_len p
      refine s_asgL (xs := (cs (utfB (ts.take i) ++ bs)).map V.int) (EvL.is (el_cat (Ev.r (ev_var rfl) ((e24.trans e5) _ _ gq)) (EvL.r h) (by rw [List.length_map, cs_len, List.length_map, cs_len, hb]; omega)) (by rw [map_cs2])) fun r H6 hr e6 g6 => ?_
      rw [hD]
      have e26 := ex.trans (e24.trans (e5.trans e6))
      exact ⟨r, _, _, _, rfl, e26, fresh_back (ex.trans (e24.trans e5)) hr, by rw [g6, hsn, hb]⟩
    refine s_if (b := decide (p < 128)) (et_is (et_test (ev_I0 (ev_var rfl) ev_c)) (decide_eq_decide.mpr (by omega))) (fun h H5 e5 => ?_) (fun h H5 e5 => ?_)
    · refine s_app (v := .int (p : Int)) ((e24.trans e5) _ _ gq) (ev_var rfl) (ev_var rfl) (by rw [List.length_map, cs_len]; omega) fun H6 e6 => ⟨q, _, _, _, rfl, Ex.mut (ex.trans (e24.trans (e5.trans e6))) hq, hq, ?_⟩
      rw [upd_same, hsn, cs_append, List.map_append]
      unfold ptB
      rw [if_pos (of_decide_eq_true h)]
      rfl
    have h128 := of_decide_eq_false h
    refine s_if (b := decide (p < 2048)) (et_is (et_test (ev_I0 (ev_var rfl) ev_c)) (decide_eq_decide.mpr (by omega))) (fun h H6 e6 => ?_) (fun h H6 e6 => ?_)
    · refine fin (bs := [192 + p / 64, 128 + p % 64]) (e5.trans e6) (by unfold ptB; rw [if_neg h128, if_pos (of_decide_eq_true h)]) rfl (EvL.is (el_lst (ea_cons (Ev.is (ev_I0 ev_c (s6 6 rfl)) (congrArg V.int (show _ = ((192 + p / 64 : Nat) : Int) by rw [show (2 : Nat) ^ 6 = 64 from rfl]; omega))) (ea_cons (ev_var rfl) ea_nil)) (Nat.le_of_ble_eq_true rfl)) rfl)
    have h2048 := of_decide_eq_false h
    refine s_if (b := decide (p < 65536)) (et_is (et_test (ev_I0 (ev_var rfl) ev_c)) (decide_eq_decide.mpr (by omega))) (fun h H7 e7 => ?_) (fun h H7 e7 => ?_)
    · refine fin (bs := [224 + p / 4096, 128 + p / 64 % 64, 128 + p % 64]) (e5.trans (e6.trans e7)) (by unfold ptB; rw [if_neg h128, if_neg h2048, if_pos (of_decide_eq_true h)]) rfl (EvL.is (el_lst (ea_cons (Ev.is (ev_I0 ev_c (s6 12 rfl)) (congrArg V.int (show _ = ((224 + p / 4096 : Nat) : Int) by rw [show (2 : Nat) ^ 12 = 4096 from rfl]; omega))) (ea_cons (ev_var rfl) (ea_cons (ev_var rfl) ea_nil))) (Nat.le_of_ble_eq_true rfl)) rfl)
    · refine fin (bs := [240 + p / 262144, 128 + p / 4096 % 64, 128 + p / 64 % 64, 128 + p % 64]) (e5.trans (e6.trans e7)) (by unfold ptB; rw [if_neg h128, if_neg h2048, if_neg (of_decide_eq_false h)]) rfl (EvL.is (el_lst (ea_cons (Ev.is (ev_I0 ev_c (s6 18 rfl)) (congrArg V.int (show _ = ((240 + p / 262144 : Nat) : Int) by rw [show (2 : Nat) ^ 18 = 262144 from rfl]; omega))) (ea_cons (Ev.is (ev_I0 ev_c (ev_and63 (s6 12 rfl))) (congrArg V.int (show _ = ((128 + p / 4096 % 64 : Nat) : Int) by rw [show (2 : Nat) ^ 12 = 4096 from rfl]; omega))) (ea_cons (ev_var rfl) (ea_cons (ev_var rfl) ea_nil)))) (Nat.le_of_ble_eq_true rfl)) rfl)
  · rintro σ' H2 ⟨q, z2, z3, z4, rfl, ex, hq, gq⟩
    rw [List.length_map, cs_len, List.take_length] at gq
    exact s_ret (v := .ref q) (ev_var rfl) fun H3 e3 => k q H3 hq (ex.trans e3) (e3 _ _ gq)
def sp_llit : Sp := fun vs H Q _ => ∃ n : Nat, vs = [.int (n : Int)] ∧ n < 4294967296 ∧ RetL ((cs (lowN n 4)).map V.int) H Q
theorem lowN4 {n : Nat} (h : n < 4294967296) : lowN n 4 = [n % 256, n / 2 ^ 8 % 256, n / 2 ^ 16 % 256, n / 2 ^ 24] := by
  show [n / 1 % 256, n / 256 % 256, n / 65536 % 256, n / 16777216 % 256] = [n % 256, n / 256 % 256, n / 65536 % 256, n / 16777216]
  have h1 : n / 1 = n := Nat.div_one n
  have h2 : n / 16777216 % 256 = n / 16777216 := Nat.mod_eq_of_lt (by omega)
  rw [h1, h2]
theorem ok_law_little (T : TX K mg) : FnOk P w K mg base CX0 1 T.a_law_little T.d_law_little ["number"] sp_llit := by
  refine T.F_law_little.ok sc_law_little (fun vs H Q E h => by obtain ⟨n, rfl, _⟩ := h; rfl) (fun cdv A outer s0 H vs Q E hr h => ?_)
  obtain ⟨n, rfl, hn, k⟩ := h
  refine ⟨_, (pss_one (ps_ret (pe_lst (pa_cons (pe_op op_and (pv 0) pe_int) (pa_cons (pe_op op_and (pe_op op_shr (pv 0) pe_int) pe_int) (pa_cons (pe_op op_and (pe_op op_shr (pv 0) pe_int) pe_int) (pa_cons (pe_op op_shr (pv 0) pe_int) pa_nil))))))), ?_⟩
  have s6 : ∀ {σ : L2.St} {H' : Hp} (j : Nat), σ[0]? = some (some (.int (n : Int))) → Ev (tOp (rI (fun _ j => 0 ≤ j) fun i j => .int (i / 2 ^ j.toNat)) (tVar 0) (tC (.int (j : Int)))) σ H' (.int ((n / 2 ^ j : Nat) : Int)) := fun j h => ev_shrN (ev_var h) ev_c
  have m8 : ∀ {σ : L2.St} {H' : Hp} {te : TE} {x : Nat}, Ev te σ H' (.int (x : Int)) → Ev (tOp (rI0 fun i j => .int (Builtin.bitAnd i j)) te (tC (.int 255))) σ H' (.int ((x % 256 : Nat) : Int)) := fun h => Ev.is (ev_I0 h ev_c) (congrArg V.int (and_mask255 _))
  exact s_retL (EvL.is (el_lst (ea_cons (m8 (ev_var rfl)) (ea_cons (m8 (s6 8 rfl)) (ea_cons (m8 (s6 16 rfl)) (ea_cons (s6 24 rfl) ea_nil)))) (Nat.le_of_ble_eq_true rfl)) (by rw [lowN4 hn]; rfl)) k
theorem el_llit {σ : L2.St} {H : Hp} {te : TE} {E : XK} {n : Nat} (h : Ev te σ H (.int (n : Int))) (hn : n < 4294967296) : EvL (tCall sp_llit [] E (tCons te tNil)) σ H ((cs (lowN n 4)).map V.int) := el_call (ea_cons h ea_nil) fun H1 _ Q q _ => ⟨n, rfl, hn, q⟩
def sp_lcb : Sp := fun vs H Q _ => ∃ (wv pe : Addr) (as : List Addr) (vd : List Nat) (l : List Ne), vs = [.ref wv, .ref pe] ∧ H wv = some (.lst ((cs vd).map V.int)) ∧ H pe = some (.lst (as.map V.ref)) ∧ EnsN (fun _ => True) H as (l.map neI) ∧ CmOk vd l ∧ RetL ((cs (cmB vd l)).map V.int) H Q
theorem ok_law_comment_bytes (T : TX K mg) : FnOk P w K mg base CX0 2 T.a_law_comment_bytes T.d_law_comment_bytes ["vendor", "entries"] sp_lcb := by
  refine T.F_law_comment_bytes.ok sc_law_comment_bytes (fun vs H Q E h => by obtain ⟨wv, pe, as, vd, l, rfl, _⟩ := h; rfl) (fun cdv A outer s0 H vs Q E hr h => ?_)
  obtain ⟨wv, pe, as, vd, l, rfl, gv, ge, hE, ⟨hv, hvl, hl, hll, htot⟩, k⟩ := h
  refine ⟨_, (pss_cons (ps_set (i := 2) sc_law_comment_bytes.nd rfl (Or.inl rfl) (pe_call (ok_law_utf8 T) (hr.mono (by decide)) (by rfl) T.g_law_utf8 T.F_law_utf8.kp T.b_law_utf8 .nil pass0 (pa_cons (pv 0) pa_nil)))
      (pss_cons (ps_set (i := 3) sc_law_comment_bytes.nd rfl (Or.inl rfl) (pe_op op_cat (pe_op op_cat (pe_call (ok_law_little T) (hr.mono (by decide)) (by rfl) T.g_law_little T.F_law_little.kp T.b_law_little .nil pass0 (pa_cons (pe_callB (r := rLenS K) call_len_seq (by rfl) T.m_len PySem.boot_len (pa_cons (pv 2) pa_nil)) pa_nil)) (pv 2)) (pe_call (ok_law_little T) (hr.mono (by decide)) (by rfl) T.g_law_little T.F_law_little.kp T.b_law_little .nil pass0 (pa_cons (pe_callB (r := rLenS K) call_len_seq (by rfl) T.m_len PySem.boot_len (pa_cons (pv 1) pa_nil)) pa_nil))))
      (pss_cons (ps_for PassesOwn.never rfl (pi_list (pv 1)) (pg_name (i := 4) sc_law_comment_bytes.nd rfl (Or.inl rfl)) (pss_cons (ps_set (i := 5) sc_law_comment_bytes.nd rfl (Or.inl rfl) (pe_op op_cat (pe_op op_cat (pe_ix (r := rIxT K) ix_tup (pv 4) pe_int (fun _ _ => rfl)) (pe_lst (pa_cons pe_int pa_nil))) (pe_call (ok_law_utf8 T) (hr.mono (by decide)) (by rfl) T.g_law_utf8 T.F_law_utf8.kp T.b_law_utf8 .nil pass0 (pa_cons (pe_ix (r := rIxT K) ix_tup (pv 4) pe_int (fun _ _ => rfl)) pa_nil))))
        (pss_one (ps_set (i := 3) sc_law_comment_bytes.nd rfl (Or.inl rfl) (pe_op op_cat (pe_op op_cat (pv 3) (pe_call (ok_law_little T) (hr.mono (by decide)) (by rfl) T.g_law_little T.F_law_little.kp T.b_law_little .nil pass0 (pa_cons (pe_callB (r := rLenS K) call_len_seq (by rfl) T.m_len PySem.boot_len (pa_cons (pv 5) pa_nil)) pa_nil))) (pv 5))))))
      (pss_one (ps_ret (pv 3)))))), ?_⟩
  have hcl := cm_len vd l
  refine q_asgL (el_wutf (ts := vd) (Ev.s (ev_var rfl) (sq_of gv)) (by omega) (pt_lt hv)) fun pu H1 hpu e1 gu => ?_
  obtain ⟨D0, hD0⟩ : ∃ D0, lowN (utfB vd).length 4 ++ (utfB vd ++ lowN l.length 4) = D0 := ⟨_, rfl⟩
  have hD0l : D0.length = 8 + (utfB vd).length := by rw [← hD0, List.length_append, List.length_append, lowN_len, lowN_len]; omega
  refine q_asgL (xs := (cs D0).map V.int) (EvL.is (el_cat (EvL.r (el_cat (EvL.r (el_llit (Ev.is (ev_lenS (K := K) (Ev.s (ev_var rfl) (sq_of gu))) (by rw [List.length_map, cs_len])) (by omega))) (Ev.r (ev_var rfl) gu) (by rw [List.length_map, cs_len, lowN_len, List.length_map, cs_len]; omega))) (EvL.r (el_llit (n := l.length) (Ev.is (ev_lenS (K := K) (Ev.s (ev_var rfl) (sq_of (e1 _ _ ge)))) (by rw [List.length_map, hE.1, List.length_map])) (by omega))) (by rw [List.length_append, List.length_map, cs_len, lowN_len, List.length_map, cs_len, List.length_map, cs_len, lowN_len]; omega)) (by rw [map_cs2, map_cs2, ← hD0, List.append_assoc])) fun pd H2 hpd e2 gd => ?_
  have e12 := e1.trans e2
  have hpdH := fresh_back e1 hpd
  have hwhole : cmB vd l = D0 ++ entsB l := by unfold cmB; rw [hD0]
  rw [hwhole] at k
  show tSeq _ _ _ [some (.ref wv), some (.ref pe), some (.ref pu), some (.ref pd), none, none] _
  refine q_forLn (K := K) (a := pe) (xs := as.map V.ref) (ev_var rfl) (sq_of (e12 _ _ ge)) (fun i σ' H' => ∃ (q : Addr) (z4 z5 : Option V), σ' = [some (.ref wv), some (.ref pe), some (.ref pu), some (.ref q), z4, z5] ∧ Ex H H' ∧ H q = none ∧ H' q = some (.lst ((cs (D0 ++ entsB (l.take i))).map V.int))) (fun H3 e3 => ⟨pd, none, none, rfl, e12.trans e3, hpdH, by rw [List.take_zero]; show _ = some (HO.lst ((cs (D0 ++ [])).map V.int)); rw [List.append_nil]; exact e3 _ _ gd⟩) (fun i σ' H' _ h => by obtain ⟨_, _, _, _, ex, _⟩ := h; exact sq_of (ex _ _ ge)) ?_ ?_
  · rintro i x σ' H3 hx ⟨q, z4, z5, rfl, ex, hq, gq⟩
    obtain ⟨ai, e, hai, hei, rfl, hi, _, pn, pw, q0, _, q1, _, q2⟩ := hE.get hx
    obtain ⟨e', he', rfl⟩ := ne_at hei
    obtain ⟨h1, h2, h3, h4, h5⟩ := hl e' (List.mem_of_getElem? he')
    have hle := entB_le he'
    have hel : (entB e').length = 4 + (oneB e').length := by unfold entB; rw [List.length_append, lowN_len]
    have hol : (oneB e').length = e'.1.length + 1 + (utfB e'.2).length := by unfold oneB; rw [List.length_append, List.length_cons]; omega
    refine q_asgL (xs := (cs (oneB e')).map V.int) (EvL.is (el_cat (EvL.r (el_cat (xs := (cs e'.1).map V.int) (Ev.r (ev_atT (K := K) (n := 0) (v := .ref pn) (ev_var rfl) (st_of (ex _ _ q0)) ev_c (at_of (j := 0) rfl rfl)) (ex _ _ q1)) (EvL.r (EvL.is (el_lst (ea_cons ev_c ea_nil) (by decide)) (show _ = (cs [61]).map V.int from rfl))) (by rw [List.length_map, cs_len]; show _ + 1 ≤ _; omega))) (EvL.r (el_wutf (ts := e'.2) (Ev.s (ev_atT (K := K) (n := 1) (v := .ref pw) (ev_var rfl) (st_of (ex _ _ q0)) ev_c (at_of (j := 1) rfl rfl)) (sq_of (ex _ _ q2))) (by omega) (pt_lt h3))) (by rw [List.length_append, List.length_map, cs_len, List.length_map, cs_len, List.length_map, cs_len]; show _ + 1 + _ ≤ _; omega)) (by rw [map_cs2, map_cs2]; unfold oneB; rw [List.append_assoc]; rfl)) fun po H4 hpo e4 go => ?_
    refine s_asgL (xs := (cs (D0 ++ entsB (l.take (i + 1)))).map V.int) (EvL.is (el_cat (EvL.r (el_cat (Ev.r (ev_var rfl) (e4 _ _ gq)) (EvL.r (el_llit (n := (oneB e').length) (Ev.is (ev_lenS (K := K) (Ev.s (ev_var rfl) (sq_of go))) (by rw [List.length_map, cs_len])) (by omega))) (by rw [List.length_map, cs_len, List.length_append, List.length_map, cs_len, lowN_len]; omega))) (Ev.r (ev_var rfl) go) (by rw [List.length_append, List.length_map, cs_len, List.length_append, List.length_map, cs_len, lowN_len, List.length_map, cs_len]; omega)) (by rw [map_cs2, map_cs2, entsB_snoc he']; unfold entB; simp only [List.append_assoc])) fun r H5 hr e5 g5 => ⟨r, _, _, rfl, ex.trans (e4.trans e5), fresh_back (ex.trans e4) hr, g5⟩
  · rintro σ' H3 ⟨q, z4, z5, rfl, ex, hq, gq⟩
    rw [List.length_map, hE.1, List.length_map, List.take_length] at gq
    exact s_ret (ev_var rfl) fun H4 e4 => k q H4 hq (ex.trans e4) (e4 _ _ gq)

/-! ### the law's draws -/
theorem wi_ixN {s l : Addr} {σ : L2.St} {H : Hp} {ta tb : TE} {xs : List Nat} {q : Int → Prop} (st : StAt H s) (ha : Ev ta σ H (.ref l)) (hls : l ≠ s) (hx : H l = some (.lst ((cs xs).map V.int))) (hb : ∀ H1, Fr s H H1 → EvI s tb σ H1 q) (hq : ∀ z, q z → ∃ j : Nat, z = (j : Int) ∧ j < xs.length) : EvI s (tOp (rIxL K) ta tb) σ H (fun z => ∃ x : Nat, z = (x : Int) ∧ x ∈ xs) := fun Q k =>
  ha H (Ex.refl H) _ fun H1 e1 => hb H1 (Fr.ex st e1) _ fun i H2 f2 hi => by
    obtain ⟨j, rfl, hj⟩ := hq i hi
    have hx2 : xs[j]? = some xs[j] := List.getElem?_eq_getElem hj
    exact ⟨l, _, (j : Int), .int ((xs[j] : Nat) : Int), rfl, rfl, sq_of (f2.l hls (e1 _ _ hx)), at_of (j := j) rfl (at_int (cs_at hx2)), k _ H2 ((Fr.ex st e1).trans f2) ⟨xs[j], rfl, List.mem_of_getElem? hx2⟩⟩
def ptI (y : Int) : Prop := ∃ t : Nat, y = (t : Int) ∧ ptOk t
def nmI (y : Int) : Prop := ∃ c : Nat, y = (c : Int) ∧ 32 ≤ c ∧ c ≤ 126 ∧ c ≠ 61
def LsP (H : Hp) (m : Nat) (v : V) (G : Hp) : Prop := ∃ (p : Addr) (xs : List Nat), v = .ref p ∧ H p = none ∧ G p = some (.lst ((cs xs).map V.int)) ∧ xs.length ≤ m ∧ ∀ t ∈ xs, ptOk t
def LsM (H : Hp) (v : V) (G : Hp) : Prop := ∃ (p : Addr) (xs : List Nat), v = .ref p ∧ H p = none ∧ G p = some (.lst ((cs xs).map V.int)) ∧ xs.length ≤ 3 ∧ xs ≠ [] ∧ ∀ c ∈ xs, 32 ≤ c ∧ c ≤ 126 ∧ c ≠ 61
def sp_ltext (K : PySem.W.Frag) : Sp := fun vs H Q _ => ∃ (s a : Addr) (ns : List Int) (m : Nat), vs = [.ref s, .ref a, .int (m : Int)] ∧ DrS K H s a ns ∧ m ≤ 9 ∧ ∀ p (xs : List Nat) H', H p = none → Fr s H H' → H' p = some (.lst ((cs xs).map V.int)) → xs.length ≤ m → (∀ t ∈ xs, ptOk t) → Q (.ref p) H'
theorem ok_law_text (T : TX K mg) : FnOk P w K mg base CX0 3 T.a_law_text T.d_law_text ["state", "script", "most"] (sp_ltext K) := by
  refine T.F_law_text.ok sc_law_text (fun vs H Q E h => by obtain ⟨s, a, ns, m, rfl, _⟩ := h; rfl) (fun cdv A outer s0 H vs Q E hr h => ?_)
  obtain ⟨s, a, ns, m, rfl, hd, hm, k⟩ := h
  refine ⟨_, (pss_cons (ps_set (i := 3) sc_law_text.nd rfl (Or.inl rfl) (pe_lst (pa_cons pe_int (pa_cons pe_int (pa_cons pe_int (pa_cons pe_int (pa_cons pe_int (pa_cons pe_int (pa_cons pe_int (pa_cons pe_int (pa_cons pe_int (pa_cons pe_int (pa_cons pe_int (pa_cons pe_int pa_nil))))))))))))))
      (pss_cons (ps_set (i := 4) sc_law_text.nd rfl (Or.inl rfl) (pe_lst pa_nil))
      (pss_cons (ps_for PassesOwn.never rfl (pi_range1 (by rfl) T.m_range (pa_cons (pe_call (ok_law_draw T) (hr.mono (by decide)) (by rfl) T.g_law_draw T.F_law_draw.kp T.b_law_draw .nil pass0 (pa_cons (pv 0) (pa_cons (pv 1) (pa_cons (pe_op op_add (pv 2) pe_int) pa_nil)))) pa_nil)) (pg_name (i := 5) sc_law_text.nd rfl (Or.inl rfl)) (pss_cons (ps_set (i := 6) sc_law_text.nd rfl (Or.inl rfl) (pe_ix (r := rIxL K) ix_list (pv 3) (pe_call (ok_law_draw T) (hr.mono (by decide)) (by rfl) T.g_law_draw T.F_law_draw.kp T.b_law_draw .nil pass0 (pa_cons (pv 0) (pa_cons (pv 1) (pa_cons pe_int pa_nil)))) (fun _ _ => rfl)))
        (pss_cons (ps_if (pt_cmpR op_eq (pe_call (ok_law_draw T) (hr.mono (by decide)) (by rfl) T.g_law_draw T.F_law_draw.kp T.b_law_draw .nil pass0 (pa_cons (pv 0) (pa_cons (pv 1) (pa_cons pe_int pa_nil)))) pe_int (nomark _)) (pss_one (ps_set (i := 6) sc_law_text.nd rfl (Or.inl rfl) (pe_call (ok_law_draw T) (hr.mono (by decide)) (by rfl) T.g_law_draw T.F_law_draw.kp T.b_law_draw .nil pass0 (pa_cons (pv 0) (pa_cons (pv 1) (pa_cons pe_int pa_nil)))))) pss_nil)
        (pss_one (ps_expr (pe_bm PySem.F.plainAttrs_list PySem.F.slot_list_append PySem.F.type_list_append mt_append (pv 4) (pa_cons (pv 6) pa_nil)))))))
      (pss_one (ps_ret (pv 4)))))), ?_⟩
  have hes : ∀ x ∈ [0, 127, 128, 2047, 2048, 55295, 57344, 65535, 65536, 1114111, 65, 61], ptOk x := fun x hx => by
    simp only [List.mem_cons, List.not_mem_nil, or_false] at hx
    unfold ptOk
    omega
  refine q_asgL (xs := (cs [0, 127, 128, 2047, 2048, 55295, 57344, 65535, 65536, 1114111, 65, 61]).map V.int) (el_lst (ea_cons ev_c (ea_cons ev_c (ea_cons ev_c (ea_cons ev_c (ea_cons ev_c (ea_cons ev_c (ea_cons ev_c (ea_cons ev_c (ea_cons ev_c (ea_cons ev_c (ea_cons ev_c (ea_cons ev_c ea_nil)))))))))))) (by decide)) fun q H1 hq e1 gq => ?_
  refine q_asgL (xs := []) (el_lst ea_nil (by decide)) fun p H2 hp e2 gp => ?_
  have e12 := e1.trans e2
  have hd2 := hd.ex e12
  have hpH := fresh_back e1 hp
  have nps := ne_st hd.1 hpH
  have nqs := ne_st hd.1 hq
  have npq : p ≠ q := ne_known hp (by rw [gq]; exact fun z => nomatch z)
  have gq2 := e2 _ _ gq
  obtain ⟨es, hese⟩ : ∃ es : List Nat, [0, 127, 128, 2047, 2048, 55295, 57344, 65535, 65536, 1114111, 65, 61] = es := ⟨_, rfl⟩
  have hel : es.length = 12 := by rw [← hese]; rfl
  rw [hese] at hes gq2
  show tSeq _ _ _ [some (.ref s), some (.ref a), some (.int (m : Int)), some (.ref q), some (.ref p), none, none] _
  refine qw_forR1 (wi_draw (n := (m : Int) + 1) hd2 rfl rfl (ev_I0 (g := fun i j => .int (i + j)) (ev_var rfl) ev_c) (by omega) (by omega)) (fun i hi => by obtain ⟨d, rfl, hd⟩ := hi; omega) (fun n i σ' H' => ∃ (xs : List Nat) (z5 z6 : Option V), σ' = [some (.ref s), some (.ref a), some (.int (m : Int)), some (.ref q), some (.ref p), z5, z6] ∧ Fr s H H' ∧ H' q = some (.lst ((cs es).map V.int)) ∧ H' p = some (.lst ((cs xs).map V.int)) ∧ xs.length = i ∧ ∀ t ∈ xs, ptOk t) (fun n H3 _ f3 => ⟨[], none, none, rfl, (Fr.ex hd.1 e12).trans f3, f3.l nqs gq2, f3.l nps gp, rfl, fun t ht => by cases ht⟩) ?_ ?_
  · rintro n i σ' H3 hn hi ⟨xs, z5, z6, rfl, f, gq3, gp3, hxl, hxo⟩
    obtain ⟨d, rfl, hdn⟩ := hn
    have hd3 := hd.fr f
    refine qw_asg (wi_ixN (K := K) hd3.1 (ev_var rfl) nqs gq3 (fun H4 f4 => wi_draw (n := 12) (hd3.fr f4) rfl rfl ev_c (by decide) (by decide)) (fun z hz => by obtain ⟨j, rfl, hj⟩ := hz; exact ⟨j, rfl, by omega⟩)) fun x H4 f4 hx => ?_
    obtain ⟨x, rfl, hxm⟩ := hx
    have hd4 := hd3.fr f4
    refine qw_whenI (R := ptI) (j := 6) (x := (x : Int)) rfl (wt_eq (wi_draw (n := 2) hd4 rfl rfl ev_c (by decide) (by decide)) fun H5 f5 => wi_ev f5.2 ev_c) (fun _ D' H5 f5 kk => sw_asg (wi_draw (n := 55296) (hd4.fr f5) rfl rfl ev_c (by decide) (by decide)) fun y H6 f6 hy => kk y H6 (by obtain ⟨t, rfl, ht⟩ := hy; exact ⟨t, rfl, by unfold ptOk; omega⟩) (f5.trans f6)) (fun _ => ⟨x, rfl, hes x hxm⟩) fun y H5 hy f5 => ?_
    obtain ⟨y, rfl, hyo⟩ := hy
    have f45 := f4.trans f5
    refine s_app (f45.l nps gp3) (ev_var rfl) (ev_var rfl) (by rw [List.length_map, cs_len]; omega) fun H6 e6 => ⟨xs ++ [y], _, _, rfl, (f.trans (f45.tex e6)).mut hpH nps, ?_, by rw [upd_same, cs_append, List.map_append]; rfl, by rw [List.length_append, hxl]; rfl, fun t ht => ?_⟩
    · rw [upd_ne (Ne.symm npq)]
      exact e6 _ _ (f45.l nqs gq3)
    · rcases List.mem_append.mp ht with ht | ht
      · exact hxo t ht
      · rw [List.mem_singleton.mp ht]; exact hyo
  · rintro n σ' H3 hn ⟨xs, z5, z6, rfl, f, gq3, gp3, hxl, hxo⟩
    obtain ⟨d, rfl, hdn⟩ := hn
    exact s_ret (ev_var rfl) fun H4 e4 => k p xs H4 hpH (f.tex e4) (e4 _ _ gp3) (by omega) hxo
def sp_lname (K : PySem.W.Frag) : Sp := fun vs H Q _ => ∃ (s a : Addr) (ns : List Int), vs = [.ref s, .ref a] ∧ DrS K H s a ns ∧ ∀ p (xs : List Nat) H', H p = none → Fr s H H' → H' p = some (.lst ((cs xs).map V.int)) → xs.length ≤ 3 → xs ≠ [] → (∀ c ∈ xs, 32 ≤ c ∧ c ≤ 126 ∧ c ≠ 61) → Q (.ref p) H'
theorem ok_law_name (T : TX K mg) : FnOk P w K mg base CX0 3 T.a_law_name T.d_law_name ["state", "script"] (sp_lname K) := by
  refine T.F_law_name.ok sc_law_name (fun vs H Q E h => by obtain ⟨s, a, ns, rfl, _⟩ := h; rfl) (fun cdv A outer s0 H vs Q E hr h => ?_)
  obtain ⟨s, a, ns, rfl, hd, k⟩ := h
  refine ⟨_, (pss_cons (ps_set (i := 2) sc_law_name.nd rfl (Or.inl rfl) (pe_lst (pa_cons pe_int (pa_cons pe_int (pa_cons pe_int (pa_cons pe_int (pa_cons pe_int (pa_cons pe_int (pa_cons pe_int (pa_cons pe_int (pa_cons pe_int (pa_cons pe_int (pa_cons pe_int (pa_cons pe_int pa_nil))))))))))))))
      (pss_cons (ps_set (i := 3) sc_law_name.nd rfl (Or.inl rfl) (pe_lst pa_nil))
      (pss_cons (ps_for PassesOwn.never rfl (pi_range1 (by rfl) T.m_range (pa_cons (pe_op op_add pe_int (pe_call (ok_law_draw T) (hr.mono (by decide)) (by rfl) T.g_law_draw T.F_law_draw.kp T.b_law_draw .nil pass0 (pa_cons (pv 0) (pa_cons (pv 1) (pa_cons pe_int pa_nil))))) pa_nil)) (pg_name (i := 4) sc_law_name.nd rfl (Or.inl rfl)) (pss_cons (ps_set (i := 5) sc_law_name.nd rfl (Or.inl rfl) (pe_ix (r := rIxL K) ix_list (pv 2) (pe_call (ok_law_draw T) (hr.mono (by decide)) (by rfl) T.g_law_draw T.F_law_draw.kp T.b_law_draw .nil pass0 (pa_cons (pv 0) (pa_cons (pv 1) (pa_cons pe_int pa_nil)))) (fun _ _ => rfl)))
        (pss_cons (ps_if (pt_cmpR op_eq (pe_call (ok_law_draw T) (hr.mono (by decide)) (by rfl) T.g_law_draw T.F_law_draw.kp T.b_law_draw .nil pass0 (pa_cons (pv 0) (pa_cons (pv 1) (pa_cons pe_int pa_nil)))) pe_int (nomark _)) (pss_cons (ps_set (i := 5) sc_law_name.nd rfl (Or.inl rfl) (pe_op op_add pe_int (pe_call (ok_law_draw T) (hr.mono (by decide)) (by rfl) T.g_law_draw T.F_law_draw.kp T.b_law_draw .nil pass0 (pa_cons (pv 0) (pa_cons (pv 1) (pa_cons pe_int pa_nil))))))
          (pss_one (ps_if (pt_cmpR op_ge (pv 5) pe_int (nomark _)) (pss_one (ps_set (i := 5) sc_law_name.nd rfl (Or.inl rfl) (pe_op op_add (pv 5) pe_int))) pss_nil))) pss_nil)
        (pss_one (ps_expr (pe_bm PySem.F.plainAttrs_list PySem.F.slot_list_append PySem.F.type_list_append mt_append (pv 3) (pa_cons (pv 5) pa_nil)))))))
      (pss_one (ps_ret (pv 3)))))), ?_⟩
  have hes : ∀ c ∈ [65, 97, 66, 98, 90, 122, 64, 91, 96, 123, 32, 126], 32 ≤ c ∧ c ≤ 126 ∧ c ≠ 61 := fun x hx => by
    simp only [List.mem_cons, List.not_mem_nil, or_false] at hx
    omega
  refine q_asgL (xs := (cs [65, 97, 66, 98, 90, 122, 64, 91, 96, 123, 32, 126]).map V.int) (el_lst (ea_cons ev_c (ea_cons ev_c (ea_cons ev_c (ea_cons ev_c (ea_cons ev_c (ea_cons ev_c (ea_cons ev_c (ea_cons ev_c (ea_cons ev_c (ea_cons ev_c (ea_cons ev_c (ea_cons ev_c ea_nil)))))))))))) (by decide)) fun q H1 hq e1 gq => ?_
  refine q_asgL (xs := []) (el_lst ea_nil (by decide)) fun p H2 hp e2 gp => ?_
  have e12 := e1.trans e2
  have hd2 := hd.ex e12
  have hpH := fresh_back e1 hp
  have nps := ne_st hd.1 hpH
  have nqs := ne_st hd.1 hq
  have npq : p ≠ q := ne_known hp (by rw [gq]; exact fun z => nomatch z)
  have gq2 := e2 _ _ gq
  obtain ⟨es, hese⟩ : ∃ es : List Nat, [65, 97, 66, 98, 90, 122, 64, 91, 96, 123, 32, 126] = es := ⟨_, rfl⟩
  have hel : es.length = 12 := by rw [← hese]; rfl
  rw [hese] at hes gq2
  show tSeq _ _ _ [some (.ref s), some (.ref a), some (.ref q), some (.ref p), none, none] _
  refine qw_forR1 (p := fun z => ∃ d : Nat, z = (d : Int) ∧ 1 ≤ d ∧ d ≤ 3) (fun Q0 k0 => wi_op (g := fun i j => i + j) (wi_ev hd2.1 ev_c) (fun H3 f3 => wi_draw (n := 3) (hd2.fr f3) rfl rfl ev_c (by decide) (by decide)) Q0 fun z H3 f3 hz => k0 z H3 f3 (by obtain ⟨_, _, rfl, ⟨d, rfl, hd⟩, rfl⟩ := hz; exact ⟨d + 1, by omega, by omega, by omega⟩)) (fun i hi => by obtain ⟨d, rfl, hd⟩ := hi; omega) (fun n i σ' H' => ∃ (xs : List Nat) (z5 z6 : Option V), σ' = [some (.ref s), some (.ref a), some (.ref q), some (.ref p), z5, z6] ∧ Fr s H H' ∧ H' q = some (.lst ((cs es).map V.int)) ∧ H' p = some (.lst ((cs xs).map V.int)) ∧ xs.length = i ∧ ∀ c ∈ xs, 32 ≤ c ∧ c ≤ 126 ∧ c ≠ 61) (fun n H3 _ f3 => ⟨[], none, none, rfl, (Fr.ex hd.1 e12).trans f3, f3.l nqs gq2, f3.l nps gp, rfl, fun t ht => by cases ht⟩) ?_ ?_
  · rintro n i σ' H3 hn hi ⟨xs, z5, z6, rfl, f, gq3, gp3, hxl, hxo⟩
    obtain ⟨d, rfl, hdn⟩ := hn
    have hd3 := hd.fr f
    refine qw_asg (wi_ixN (K := K) hd3.1 (ev_var rfl) nqs gq3 (fun H4 f4 => wi_draw (n := 12) (hd3.fr f4) rfl rfl ev_c (by decide) (by decide)) (fun z hz => by obtain ⟨j, rfl, hj⟩ := hz; exact ⟨j, rfl, by omega⟩)) fun x H4 f4 hx => ?_
    obtain ⟨x, rfl, hxm⟩ := hx
    have hd4 := hd3.fr f4
    refine qw_whenI (R := nmI) (j := 5) (x := (x : Int)) rfl (wt_eq (wi_draw (n := 4) hd4 rfl rfl ev_c (by decide) (by decide)) fun H5 f5 => wi_ev f5.2 ev_c) (fun _ D' H5 f5 kk => qw_asg (wi_op (g := fun i j => i + j) (wi_ev f5.2 ev_c) fun H6 f6 => wi_draw (n := 94) ((hd4.fr f5).fr f6) rfl rfl ev_c (by decide) (by decide)) fun y H6 f6 hy => ?_) (fun _ => ⟨x, rfl, hes x hxm⟩) fun y H5 hy f5 => ?_
    · obtain ⟨_, _, rfl, ⟨t, rfl, ht⟩, rfl⟩ := hy
      refine sw_whenI (p := fun b => b = decide (61 ≤ (32 : Int) + (t : Int))) (R := nmI) (j := 5) (x := (32 : Int) + (t : Int)) rfl (wt_ev f6.2 (et_test (ev_I0 (g := fun i j => .bl (decide (j ≤ i))) (ev_var rfl) ev_c))) (fun hp H7 f7 => s_asg (v := .int ((32 : Int) + (t : Int) + 1)) (ev_I0 (g := fun i j => .int (i + j)) (ev_var rfl) ev_c) fun H8 e8 => kk _ H8 ⟨t + 33, by omega, ?_⟩ ((f5.trans f6).trans (f7.tex e8))) (fun hp => ⟨t + 32, by omega, ?_⟩) fun z H7 hz f7 => kk z H7 hz ((f5.trans f6).trans f7)
      · have := of_decide_eq_true hp.symm; omega
      · have := of_decide_eq_false hp.symm; omega
    obtain ⟨y, rfl, hyo⟩ := hy
    have f45 := f4.trans f5
    refine s_app (f45.l nps gp3) (ev_var rfl) (ev_var rfl) (by rw [List.length_map, cs_len]; omega) fun H6 e6 => ⟨xs ++ [y], _, _, rfl, (f.trans (f45.tex e6)).mut hpH nps, ?_, by rw [upd_same, cs_append, List.map_append]; rfl, by rw [List.length_append, hxl]; rfl, fun t ht => ?_⟩
    · rw [upd_ne (Ne.symm npq)]
      exact e6 _ _ (f45.l nqs gq3)
    · rcases List.mem_append.mp ht with ht | ht
      · exact hxo t ht
      · rw [List.mem_singleton.mp ht]; exact hyo
  · rintro n σ' H3 hn ⟨xs, z5, z6, rfl, f, gq3, gp3, hxl, hxo⟩
    obtain ⟨d, rfl, hdn⟩ := hn
    exact s_ret (ev_var rfl) fun H4 e4 => k p xs H4 hpH (f.tex e4) (e4 _ _ gp3) (by omega) (by rintro rfl; have : (0 : Nat) = (d : Int).toNat := hxl; omega) hxo
theorem xw_text {s a : Addr} {ns : List Int} {σ : L2.St} {H : Hp} {tm : TE} {E : XK} {i j m : Nat} (hd : DrS K H s a ns) (h1 : σ[i]? = some (some (.ref s))) (h2 : σ[j]? = some (some (.ref a))) (h3 : Ev tm σ H (.int (m : Int))) (hm : m ≤ 9) : EvXW s (tCall (sp_ltext K) [] E (tCons (tVar i) (tCons (tVar j) (tCons tm tNil)))) σ H (LsP H m) := fun Q q =>
  (ea_cons (ev_var h1) (ea_cons (ev_var h2) (ea_cons h3 ea_nil))) H (Ex.refl H) _ fun H1 e1 => ⟨s, a, ns, m, rfl, hd.ex e1, hm, fun p xs H2 hp f2 gp hl ho => q (.ref p) H2 ((Fr.ex hd.1 e1).trans f2) ⟨p, xs, rfl, fresh_back e1 hp, gp, hl, ho⟩⟩
theorem xw_name {s a : Addr} {ns : List Int} {σ : L2.St} {H : Hp} {E : XK} {i j : Nat} (hd : DrS K H s a ns) (h1 : σ[i]? = some (some (.ref s))) (h2 : σ[j]? = some (some (.ref a))) : EvXW s (tCall (sp_lname K) [] E (tCons (tVar i) (tCons (tVar j) tNil))) σ H (LsM H) := fun Q q =>
  (ea_cons (ev_var h1) (ea_cons (ev_var h2) ea_nil)) H (Ex.refl H) _ fun H1 e1 => ⟨s, a, ns, rfl, hd.ex e1, fun p xs H2 hp f2 gp hl hne ho => q (.ref p) H2 ((Fr.ex hd.1 e1).trans f2) ⟨p, xs, rfl, fresh_back e1 hp, gp, hl, hne, ho⟩⟩
theorem LsM.fr {s : Addr} {H : Hp} (st : StAt H s) : ∀ v G G', Fr s G G' → LsM H v G → LsM H v G' := fun v G G' f ⟨p, xs, h1, h2, h3, h4⟩ => ⟨p, xs, h1, h2, f.l (ne_st st h2) h3, h4⟩
theorem LsP.ex {H : Hp} {m : Nat} : ∀ v G G', Ex G G' → LsP H m v G → LsP H m v G' := fun v G G' e ⟨p, xs, h1, h2, h3, h4⟩ => ⟨p, xs, h1, h2, e _ _ h3, h4⟩
/-- an entry as the law draws it, its size in bytes -/
theorem entB_bd {e : Ne} : (entB e).length = 5 + e.1.length + (utfB e.2).length := by unfold entB oneB; rw [List.length_append, lowN_len, List.length_append, List.length_cons]; omega
theorem entsB_app (l m : List Ne) : entsB (l ++ m) = entsB l ++ entsB m := List.flatMap_append ..
theorem entsB_one (e : Ne) : entsB [e] = entB e := List.append_nil _
def sp_lents (K : PySem.W.Frag) : Sp := fun vs H Q _ => ∃ (s a : Addr) (ns : List Int) (m : Nat), vs = [.ref s, .ref a, .int (m : Int)] ∧ DrS K H s a ns ∧ m ≤ 9 ∧ ∀ p (as : List Addr) (es : List Ne) H', H p = none → Fr s H H' → H' p = some (.lst (as.map V.ref)) → EnsN (fun b => b ≠ s ∧ b ≠ p) H' as (es.map neI) → es.length ≤ m → (∀ e ∈ es, NeOk e) → (entsB es).length ≤ 24 * es.length → Q (.ref p) H'
theorem ok_law_entries (T : TX K mg) : FnOk P w K mg base CX0 4 T.a_law_entries T.d_law_entries ["state", "script", "most"] (sp_lents K) := by
  refine T.F_law_entries.ok sc_law_entries (fun vs H Q E h => by obtain ⟨s, a, ns, m, rfl, _⟩ := h; rfl) (fun cdv A outer s0 H vs Q E hr h => ?_)
  obtain ⟨s, a, ns, m, rfl, hd, hm, k⟩ := h
  refine ⟨_, (pss_one (ps_ret (pe_lc (own := [("k", 3)]) (g := gName 3) (tt := tYes) rfl sc_law_entries.nd (pi_range1 (by rfl) T.m_range (pa_cons (pe_call (ok_law_draw T) (hr.mono (by decide)) (by rfl) T.g_law_draw T.F_law_draw.kp T.b_law_draw .nil pass0 (pa_cons (pv 0) (pa_cons (pv 1) (pa_cons (pe_op op_add (pv 2) pe_int) pa_nil)))) pa_nil)) (blkOk_by (N := ["state", "script", "most", "k"]) (sc := defScope s_law_entries) (by decide +kernel)) (fun _ _ _ _ _ => pg_name (i := 3) sc_law_entries.nd rfl (Or.inl rfl)) (fun _ _ _ _ _ => pts_nil) (fun _ _ _ _ _ => (pe_tup (pa_cons (pe_call (ok_law_name T) (hr.mono (by decide)) (by rfl) T.g_law_name T.F_law_name.kp T.b_law_name .nil pass0 (pa_cons (pv 0) (pa_cons (pv 1) pa_nil))) (pa_cons (pe_call (ok_law_text T) (hr.mono (by decide)) (by rfl) T.g_law_text T.F_law_text.kp T.b_law_text .nil pass0 (pa_cons (pv 0) (pa_cons (pv 1) (pa_cons pe_int pa_nil)))) pa_nil))))))), ?_⟩
  refine tlc_rngWW (wi_draw (n := (m : Int) + 1) hd rfl rfl (ev_I0 (g := fun i j => .int (i + j)) (ev_var rfl) ev_c) (by omega) (by omega)) (fun i hi => by obtain ⟨d, rfl, hd⟩ := hi; omega) fun n H1 hn f1 Dl hDl => ⟨fun i H' => ∃ (as : List Addr) (es : List Ne), Fr s H1 H' ∧ H' Dl = some (.lst (as.map V.ref)) ∧ es.length = i ∧ EnsN (fun b => b ≠ s ∧ b ≠ Dl) H' as (es.map neI) ∧ (∀ e ∈ es, NeOk e) ∧ (entsB es).length ≤ 24 * es.length, ⟨[], [], Fr.ex f1.2 (Ex.new hDl), upd_same, rfl, EnsN.nil, (fun e he => by cases he), Nat.le_refl _⟩, fun i H' hi h => ⟨rfl, ?_⟩, fun H' h => ?_⟩
  · obtain ⟨as, es, f, gD, hel, hE, hb, hbl⟩ := h
    have hdr := (hd.fr f1).fr f
    have nDs := ne_st f1.2 hDl
    have hnl : (i : Int) ≤ 10 := by obtain ⟨d, rfl, hd2⟩ := hn; omega
    refine xw_pair (s := s) (σ := [some (.ref s), some (.ref a), some (.int (m : Int)), some (.int (i : Int))]) (H := H') (xw_name hdr rfl rfl) (LsM.fr hdr.1) (fun v G G' e (h : ∃ H0, StAt H0 s ∧ (∀ b, H' b ≠ none → H0 b ≠ none) ∧ LsP H0 4 v G) => by obtain ⟨H0, h0, h00, h⟩ := h; exact ⟨H0, h0, h00, LsP.ex v G G' e h⟩) (fun H2 f2 Q0 q0 => xw_text (m := 4) (hdr.fr f2) rfl rfl ev_c (by decide) _ fun v H3 f3 h => q0 v H3 f3 ⟨H2, f2.2, fun b hb hb2 => hb (f2.fresh hb2), h⟩) _ fun v H2 f2 hv => ?_
    obtain ⟨pt, v1, v2, rfl, hpt, gpt, ⟨p1, x1, rfl, hp1, gp1, hl1, hne1, ho1⟩, H0, st0, hk0, p2, x2, rfl, hp2, gp2, hl2, ho2⟩ := hv
    have gD2 := f2.l nDs gD
    have hDk : H' Dl ≠ none := by rw [gD]; exact fun z => nomatch z
    have kp : Kp (fun b => b ≠ s ∧ b ≠ Dl) H' (upd H2 Dl (.lst (as.map V.ref ++ [.ref pt]))) := (Kp.fr f2 (fun h => h.1 rfl)).mut fun h => absurd rfl h.2
    have nn : ∀ {b : Addr}, H' b = none → b ≠ s ∧ b ≠ Dl := fun h => ⟨ne_st hdr.1 h, ne_known h hDk⟩
    have n2 : p2 ≠ s ∧ p2 ≠ Dl := ⟨ne_st st0 hp2, ne_known hp2 (hk0 _ hDk)⟩
    have hul := utfB_len x2
    refine ⟨_, gD2, sz_lt (by rw [List.length_map, hE.1, List.length_map, hel]; omega), as ++ [pt], es ++ [(x1, x2)], ?_, by rw [upd_same, List.map_append]; rfl, by rw [List.length_append, hel]; rfl, ?_, fun e he => ?_, ?_⟩
    · exact (f.trans f2).mut hDl nDs
    · rw [List.map_append]
      exact (hE.kp kp).snoc (e := neI (x1, x2)) (nn hpt) (by rw [upd_ne (nn hpt).2]; exact gpt) (nn hp1) (by rw [upd_ne (nn hp1).2]; exact gp1) n2 (by rw [upd_ne n2.2]; exact gp2)
    · rcases List.mem_append.mp he with he | he
      · exact hb e he
      · rw [List.mem_singleton.mp he]; exact ⟨ho1, hne1, ho2, by show x1.length ≤ 1000; omega, by show x2.length ≤ 1000; omega⟩
    · rw [entsB_app, entsB_one, List.length_append, entB_bd, List.length_append]
      show _ + (5 + x1.length + (utfB x2).length) ≤ 24 * (es.length + 1)
      omega
  · obtain ⟨as, es, f, gD, hel, hE, hb, hbl⟩ := h
    obtain ⟨d, rfl, hd2⟩ := hn
    exact k Dl as es H' (f1.fresh hDl) (f1.trans f) gD hE (by omega) hb hbl

theorem CmN.any {N : Addr → Prop} {C : Addr} {G : Hp} {c : Addr} {vd : List Int} {es : List En} (h : CmN N C G c vd es) : CmN (fun _ => True) C G c vd es := h.imp fun _ _ _ => trivial
theorem EnsN.any {N : Addr → Prop} {G : Hp} {as : List Addr} {es : List En} (h : EnsN N G as es) : EnsN (fun _ => True) G as es := h.imp fun _ _ _ => trivial

theorem cmB_lt {vd : List Nat} {l : List Ne} (h : CmOk vd l) : ∀ d ∈ cmB vd l, d < 256 := fun d hd => by
  have hlow : ∀ {n c : Nat}, d ∈ lowN n c → d < 256 := fun {n c} h => by
    obtain ⟨i, _, rfl⟩ := List.mem_map.mp h
    exact Nat.mod_lt _ (by decide)
  obtain ⟨hv, _, hl, _⟩ := h
  unfold cmB at hd
  rcases List.mem_append.mp hd with hd | hd
  · rcases List.mem_append.mp hd with hd | hd
    · exact hlow hd
    · rcases List.mem_append.mp hd with hd | hd
      · exact utfB_lt (pt_lt hv) d hd
      · exact hlow hd
  · obtain ⟨e, he, hd⟩ := List.mem_flatMap.mp hd
    obtain ⟨h1, _, h3, _⟩ := hl e he
    unfold entB oneB at hd
    rcases List.mem_append.mp hd with hd | hd
    · exact hlow hd
    · rcases List.mem_append.mp hd with hd | hd
      · have := h1 d hd; omega
      · rcases List.mem_cons.mp hd with rfl | hd
        · decide
        · exact utfB_lt (pt_lt h3) d hd

/-! ### what reading and writing gives -/
theorem callX {σ : L2.St} {H : Hp} {sp : Sp} {dvs args : List V} {E : L2.St → XK} {ta : TA} (h : EvA ta σ H args) {Q : VK} (k : ∀ H1, Ex H H1 → sp (args ++ dvs) H1 Q (E σ)) : tCallX sp dvs E ta σ H Q := h H (Ex.refl H) _ fun H1 e => k H1 e
theorem ok_law_outcome (T : TX K mg) : FnOk P w K mg base CX0 7 T.a_law_outcome T.d_law_outcome ["data", "start", "stop"] (sp_lex K) := by
  refine T.F_law_outcome.ok sc_law_outcome (fun vs H Q E h => by obtain ⟨p, ds, st, stop, rfl, _⟩ := h; rfl) (fun cdv A outer s0 H vs Q E hr h => ?_)
  obtain ⟨p, ds, st, stop, rfl, hS, hdl, hb, hle, hsl, k⟩ := h
  refine ⟨_, (pss_one (L2N.ps_try_as (i := 3) rfl rfl sc_law_outcome.nd rfl rfl ⟨rfl, by decide, .inl T.g_MonochordError⟩ takesN0 (fun W pn xe tk po => (pss_one (ps_ret (pe_tup (pa_cons pe_str (pa_cons (pe_call (ok_write_comments T) (hr.mono (by decide)) (by rfl) T.g_write_comments T.F_write_comments.kp T.b_write_comments .nil pass0 (pa_cons (pe_callX (ok_read_comments T) (hr.mono (by decide)) (by rfl) T.g_read_comments T.F_read_comments.kp T.b_read_comments .nil (fun σ => L2N.passAt tk σ) (pa_cons (pv 0) (pa_cons (pv 1) (pa_cons (pv 2) pa_nil)))) pa_nil)) pa_nil)))))) (fun a oe cls d pn hz hf => (pss_cons (ps_if (PW.pt (pw_or (pt_not (pt_val (L2H.pe_callH (okh_law_is_integer T) (roomH_suite hr (by decide)) (hot_of hz hf) (by rfl) T.g_law_is_integer T.F_law_is_integer.kp T.b_law_is_integer (fun _ => passH0) (pa_cons (pe_xfA hz.zc hf (pv 3)) pa_nil)))) (pw_or1 (pt_not (pt_val (pe_callB (call_isA hz.zc hf) (by rfl) T.m_isinstance PyProof.Rows.boot_isinstance (pa_cons (pv 3) (pa_cons (pe_bltn (v := V.ty "ValueError") (by rfl) T.m_ValueError (by decide +kernel) rfl) pa_nil)))))))) (pss_one (ps_ret (pe_tup (pa_cons pe_str pa_nil)))) pss_nil)
        (pss_one (ps_ret (pe_tup (pa_cons pe_str (pa_cons (pe_callB (call_isA hz.zc hf) (by rfl) T.m_isinstance PyProof.Rows.boot_isinstance (pa_cons (pv 3) (pa_cons (pe_glob (v := V.ref T.C_InvalidForm) (by rfl) T.g_InvalidForm rfl) pa_nil))) (pa_cons (pe_callB (call_isA hz.zc hf) (by rfl) T.m_isinstance PyProof.Rows.boot_isinstance (pa_cons (pv 3) (pa_cons (pe_glob (v := V.ref T.C_InvalidText) (by rfl) T.g_InvalidText rfl) pa_nil))) (pa_cons (pe_xfA hz.zc hf (pv 3)) pa_nil))))))))))), ?_⟩
  unfold cmD at k
  refine callX (sp := sp_rcx K T.C_Comments T.C_InvalidForm T.C_InvalidText) (dvs := []) (args := [.ref p, .int (st : Int), .int (stop : Int)]) (ta := tCons (tVar 0) (tCons (tVar 1) (tCons (tVar 2) tNil))) (ea_cons (ev_var rfl) (ea_cons (ev_var rfl) (ea_cons (ev_var rfl) ea_nil))) fun H1 e1 => ⟨p, ds, st, stop, rfl, ex_l e1 hS, hb, hdl, hsl, fun n hO H2 dd e2 he => ?_, fun n hO H2 dd e2 he => ?_, fun vd l hO c H2 hc e2 hC => ?_⟩
  · refine ⟨true, exm_su T.x_MonochordError T.su_InvalidForm_MonochordError, fun _ a0 ha0 => ?_, fun z => by cases z⟩
    refine q_when (b := false) (et_is (et_or (a := false) (b := false) (et_is (et_not (et_B (ev_isintH (ev_xfA (ev_var rfl) rfl T.x_InvalidForm.xf T.x_InvalidForm.nP rfl he rfl)))) rfl) fun _ => et_is (et_not (et_B (ev_isVE (ev_var rfl) rfl T.x_InvalidForm.ex rfl he (kitOne_VE T.sv_InvalidForm)))) rfl) rfl) (fun h => by cases h) fun _ H3 e3 => ?_
    have he3 := he.ex e3
    refine s_retU (xs := [.str "error", .bl true, .bl false, .int (n : Int)]) (eu_tup (ea_cons ev_c (ea_cons (ev_isA (ev_var rfl) rfl T.x_InvalidForm.ex rfl he3 (kitOne_ref T.x_InvalidForm T.su_InvalidForm_InvalidForm T.su_InvalidForm_InvalidForm)) (ea_cons (ev_isA (ev_var rfl) rfl T.x_InvalidForm.ex rfl he3 (kitOne_ref T.x_InvalidText T.su_InvalidForm_InvalidText T.su_InvalidForm_InvalidForm)) (ea_cons (ev_xfA (ev_var rfl) rfl T.x_InvalidForm.xf T.x_InvalidForm.nP rfl he3 rfl) ea_nil)))) (Nat.le_of_ble_eq_true rfl)) fun t H4 ht e4 g4 => k _ H4 ((e1.trans e2).trans (e3.trans e4)) ?_
    rw [hO]
    exact FltV.dp ⟨t, rfl, g4⟩
  · refine ⟨true, exm_su T.x_MonochordError T.su_InvalidText_MonochordError, fun _ a0 ha0 => ?_, fun z => by cases z⟩
    refine q_when (b := false) (et_is (et_or (a := false) (b := false) (et_is (et_not (et_B (ev_isintH (ev_xfA (ev_var rfl) rfl T.x_InvalidText.xf T.x_InvalidText.nP rfl he rfl)))) rfl) fun _ => et_is (et_not (et_B (ev_isVE (ev_var rfl) rfl T.x_InvalidText.ex rfl he (kitOne_VE T.sv_InvalidText)))) rfl) rfl) (fun h => by cases h) fun _ H3 e3 => ?_
    have he3 := he.ex e3
    refine s_retU (xs := [.str "error", .bl false, .bl true, .int (n : Int)]) (eu_tup (ea_cons ev_c (ea_cons (ev_isA (ev_var rfl) rfl T.x_InvalidText.ex rfl he3 (kitOne_ref T.x_InvalidForm T.su_InvalidText_InvalidForm T.su_InvalidText_InvalidText)) (ea_cons (ev_isA (ev_var rfl) rfl T.x_InvalidText.ex rfl he3 (kitOne_ref T.x_InvalidText T.su_InvalidText_InvalidText T.su_InvalidText_InvalidText)) (ea_cons (ev_xfA (ev_var rfl) rfl T.x_InvalidText.xf T.x_InvalidText.nP rfl he3 rfl) ea_nil)))) (Nat.le_of_ble_eq_true rfl)) fun t H4 ht e4 g4 => k _ H4 ((e1.trans e2).trans (e3.trans e4)) ?_
    rw [hO]
    exact FltV.dp ⟨t, rfl, g4⟩
  · obtain ⟨r1, r2⟩ := cmR_rt hb hdl hsl hO
    refine ⟨c, vd, l, rfl, hC.any, r2, fun q H3 hq e3 g3 => ⟨sz_of (Nat.le_of_ble_eq_true rfl), fun t ht => k _ _ ((e1.trans e2).trans (e3.trans (Ex.new ht))) ?_⟩⟩
    rw [hO, ← r1]
    exact .tup (st_of upd_same) (.cons (.str _) (.cons (.lst (sq_of (Ex.new ht _ _ g3)) (dp_ints _)) .nil))
theorem ed_lex {sp : Sp} {σ : L2.St} {H : Hp} {t1 t2 t3 : TE} {E : XK} {p : Addr} {ds : List Nat} {st stop : Nat} (h1 : Ev t1 σ H (.ref p)) (h2 : Ev t2 σ H (.int (st : Int))) (h3 : Ev t3 σ H (.int (stop : Int))) (hS : SqL K H p ((cs ds).map V.int)) (hl : ds.length ≤ 1000) (hb : ∀ d ∈ ds, d < 256) (hle : st ≤ stop) (hsl : stop ≤ ds.length) : EvD K (tCall (sp_lex K) [] E (tCons t1 (tCons t2 (tCons t3 tNil)))) σ H (cmD ds st stop) := fun H1 e Q q =>
  (ea_cons h1 (ea_cons h2 (ea_cons h3 ea_nil))) H1 e _ fun H2 e2 => ⟨p, ds, st, stop, rfl, ex_l (e.trans e2) hS, hl, hb, hle, hsl, fun v H3 e3 hv => q v H3 (e2.trans e3) hv⟩

-- K51H
/-! ### the law -/
section
variable {s : Addr} {σ : L2.St} {H : Hp} {D : Ends} {tz tu : TS} {t : TT} {t0 t1 t2 t3 ti : TE} {S1 S2 : V → Hp → Prop} {p q : Int → Prop}
theorem qw_call2 {sp : Sp} {dvs : List V} {E : XK} {i : Nat} (h1 : EvXW s t1 σ H S1) (hu : ∀ v G G', Fr s G G' → S1 v G → S1 v G') (h2 : ∀ H1, Fr s H H1 → EvXW s t2 σ H1 S2) (k : ∀ v1 v2 H2, Fr s H H2 → S1 v1 H2 → S2 v2 H2 → sp ([v1, v2] ++ dvs) H2 (fun x H3 => tz D (σ.set i (some x)) H3) E) : tSeq (tAsg (tCall sp dvs E (tCons t1 (tCons t2 tNil))) (gName i)) tz D σ H :=
  h1 _ fun v1 H1 f1 s1 => h2 H1 f1 _ fun v2 H2 f2 s2 => k v1 v2 H2 (f1.trans f2) (hu _ _ _ f2 s1) s2
theorem qw_whenS {pb : Bool → Prop} {R : L2.St → Hp → Prop} (h : EvTW s t σ H pb) (h1 : pb true → ∀ (D' : Ends) H1, Fr s H H1 → (∀ σ' H2, R σ' H2 → D'.nx σ' H2) → tu D' σ H1) (h2 : pb false → ∀ H1, Fr s H H1 → R σ H1) (k : ∀ σ' H1, R σ' H1 → tz D σ' H1) : tSeq (tIfS t tu tNext) tz D σ H := h _ fun b H1 f hb => by
  cases b with
  | true => exact h1 hb { D with nx := tz D } H1 f k
  | false => exact k σ H1 (h2 hb H1 f)
theorem wi_im {te : TE} (h : EvI s te σ H p) (i : ∀ z, p z → q z) : EvI s te σ H q := fun Q k => h Q fun z H1 f hz => k z H1 f (i z hz)
theorem wi_ix4 (h0 : EvI s t0 σ H p) (h1 : ∀ H1, Fr s H H1 → EvI s t1 σ H1 p) (h2 : ∀ H1, Fr s H H1 → EvI s t2 σ H1 p) (h3 : ∀ H1, Fr s H H1 → EvI s t3 σ H1 p) (hi : ∀ H1, Fr s H H1 → EvI s ti σ H1 (fun z => ∃ j : Nat, z = (j : Int) ∧ j < 4)) : EvI s (tOp (rIxL K) (tLst (tCons t0 (tCons t1 (tCons t2 (tCons t3 tNil))))) ti) σ H p := fun Q k =>
  h0 _ fun a H1 f1 pa => h1 H1 f1 _ fun b H2 f2 pb => h2 H2 (f1.trans f2) _ fun c H3 f3 pc => h3 H3 ((f1.trans f2).trans f3) _ fun d H4 f4 pd => ⟨Nat.le_of_ble_eq_true rfl, fun l hl => by
    have f04 := ((f1.trans f2).trans f3).trans f4
    have f5 := f04.tex (Ex.new (o := .lst [.int a, .int b, .int c, .int d]) hl)
    exact hi _ f5 _ fun z H5 f6 hz => by
      obtain ⟨j, rfl, hj⟩ := hz
      obtain ⟨x, hx, px⟩ : ∃ x, ([a, b, c, d].map V.int)[j]? = some (V.int x) ∧ p x := by
        have : j = 0 ∨ j = 1 ∨ j = 2 ∨ j = 3 := by omega
        rcases this with rfl | rfl | rfl | rfl
        · exact ⟨a, rfl, pa⟩
        · exact ⟨b, rfl, pb⟩
        · exact ⟨c, rfl, pc⟩
        · exact ⟨d, rfl, pd⟩
      exact ⟨l, [a, b, c, d].map V.int, (j : Int), .int x, rfl, rfl, sq_of (f6.l (ne_st f04.2 hl) upd_same), at_of (j := j) rfl hx, k x H5 (f5.trans f6) px⟩⟩
end
theorem wl_one {s : Addr} {σ : L2.St} {H : Hp} {te : TE} {p : Int → Prop} (h : EvI s te σ H p) : EvLW s (tLst (tCons te tNil)) σ H (fun ys => ∃ x, p x ∧ ys = [.int x]) := fun Q k => h _ fun x H1 f1 hx => ⟨sz_of (show 1 ≤ 100000 by decide), fun r hr => k r _ _ (f1.fresh hr) (f1.tex (Ex.new hr)) upd_same ⟨x, hx, rfl⟩⟩
theorem wl_catE {s : Addr} {σ : L2.St} {H : Hp} {ta tb : TE} {P : List V → Prop} {ys : List V} (ha : EvLW s ta σ H P) (hb : ∀ H1, Fr s H H1 → EvL tb σ H1 ys) (hl : ∀ xs, P xs → xs.length + ys.length ≤ 100000) : EvLW s (tOp rCat ta tb) σ H (fun zs => ∃ xs, P xs ∧ zs = xs ++ ys) := fun Q k =>
  ha _ fun p xs H1 hp f1 g1 hx => hb H1 f1 H1 (Ex.refl _) _ fun q H2 hq e2 g2 => ⟨p, q, xs, ys, rfl, rfl, e2 _ _ g1, g2, sz_of (hl xs hx), fun r hr => k r _ _ ((f1.tex e2).fresh hr) ((f1.tex e2).tex (Ex.new hr)) upd_same ⟨xs, hx, rfl⟩⟩
def LsE (s : Addr) (v : V) (G : Hp) : Prop := ∃ (p : Addr) (as : List Addr) (es : List Ne), v = .ref p ∧ G p = some (.lst (as.map V.ref)) ∧ EnsN (fun _ => True) G as (es.map neI) ∧ es.length ≤ 4 ∧ (∀ e ∈ es, NeOk e) ∧ (entsB es).length ≤ 96
theorem xw_ents {s a : Addr} {ns : List Int} {σ : L2.St} {H : Hp} {tm : TE} {E : XK} {i j : Nat} (hd : DrS K H s a ns) (h1 : σ[i]? = some (some (.ref s))) (h2 : σ[j]? = some (some (.ref a))) (h3 : Ev tm σ H (.int ((4 : Nat) : Int))) : EvXW s (tCall (sp_lents K) [] E (tCons (tVar i) (tCons (tVar j) (tCons tm tNil)))) σ H (LsE s) := fun Q q =>
  (ea_cons (ev_var h1) (ea_cons (ev_var h2) (ea_cons h3 ea_nil))) H (Ex.refl H) _ fun H1 e1 => ⟨s, a, ns, 4, rfl, hd.ex e1, by decide, fun p as es H2 hp f2 gp hE hl ho hb => q (.ref p) H2 ((Fr.ex hd.1 e1).trans f2) ⟨p, as, es, rfl, gp, hE.any, hl, ho, by omega⟩⟩
theorem byte_cs {B : List Nat} {C : List Nat} (hB : ∀ d ∈ B, d < 256) (hC : ∀ d ∈ C, d < 256) : ∀ d ∈ B ++ C, d < 256 := fun d hd => by
  rcases List.mem_append.mp hd with h | h
  · exact hB d h
  · exact hC d h
def BdL (s : Addr) (G : Hp) (pb : Addr) (B : List Nat) (m : Nat) : Prop := pb ≠ s ∧ G pb = some (.lst ((cs B).map V.int)) ∧ (∀ d ∈ B, d < 256) ∧ B.length ≤ m
theorem BdL.fr {s : Addr} {G G' : Hp} {pb : Addr} {B : List Nat} {m m' : Nat} (h : BdL s G pb B m) (f : Fr s G G') (hm : m ≤ m') : BdL s G' pb B m' := ⟨h.1, f.l h.1 h.2.1, h.2.2.1, by have := h.2.2.2; omega⟩
def sp_law (K : PySem.W.Frag) : Sp := fun vs H Q _ => ∃ (a : Addr) (ns : List Int), vs = [.ref a] ∧ SqL K H a (ns.map V.int) ∧ ns.length ≤ 63 ∧ ∀ H', Q (.bl true) H'
theorem cmD_shaped (ds : List Nat) (st stop : Nat) : SeqAt.shaped (cmD ds st stop) = true := by
  unfold cmD
  cases cmR ds st stop with
  | error f =>
    unfold SeqAt.shaped
    show (PyData.canLay0 (fltD f) && decide (PyData.depth (fltD f) ≤ 64)) = true
    unfold fltD
    rw [Bool.and_eq_true, decide_eq_true_iff]
    exact ⟨by simp only [PyData.canLay0, PyData.canLayAll0]; decide +kernel, by simp only [PyData.depth, PyData.depthAll]; omega⟩
  | ok r =>
    unfold SeqAt.shaped
    have h1 := canLay_ints (cs ((ds.drop st).take (stop - st)))
    have h2 := depth_ints (cs ((ds.drop st).take (stop - st)))
    rw [Bool.and_eq_true, decide_eq_true_iff]
    refine ⟨by simp only [PyData.canLay0, PyData.canLayAll0, h1]; decide +kernel, ?_⟩
    simp only [PyData.depth, PyData.depthAll]
    omega
theorem ok_law (T : TX K mg) : FnOk P w K mg base CX0 8 T.a_law T.d_law ["script"] (sp_law K) := by
  refine T.F_law.ok sc_law (fun vs H Q E h => by obtain ⟨a, ns, rfl, _⟩ := h; rfl) (fun cdv A outer s0 H vs Q E hr h => ?_)
  obtain ⟨a, ns, rfl, hS, hlen, k⟩ := h
  refine ⟨_, (pss_cons (ps_set (i := 1) sc_law.nd rfl (Or.inl rfl) (pe_lst (pa_cons pe_int (pa_cons pe_int pa_nil))))
      (pss_cons (ps_set (i := 2) sc_law.nd rfl (Or.inl rfl) (pe_call (ok_law_comment_bytes T) (hr.mono (by decide)) (by rfl) T.g_law_comment_bytes T.F_law_comment_bytes.kp T.b_law_comment_bytes .nil pass0 (pa_cons (pe_call (ok_law_text T) (hr.mono (by decide)) (by rfl) T.g_law_text T.F_law_text.kp T.b_law_text .nil pass0 (pa_cons (pv 1) (pa_cons (pv 0) (pa_cons pe_int pa_nil)))) (pa_cons (pe_call (ok_law_entries T) (hr.mono (by decide)) (by rfl) T.g_law_entries T.F_law_entries.kp T.b_law_entries .nil pass0 (pa_cons (pv 1) (pa_cons (pv 0) (pa_cons pe_int pa_nil)))) pa_nil))))
      (pss_cons (ps_for PassesOwn.never rfl (pi_range1 (by rfl) T.m_range (pa_cons (pe_call (ok_law_draw T) (hr.mono (by decide)) (by rfl) T.g_law_draw T.F_law_draw.kp T.b_law_draw .nil pass0 (pa_cons (pv 1) (pa_cons (pv 0) (pa_cons pe_int pa_nil)))) pa_nil)) (pg_name (i := 3) sc_law.nd rfl (Or.inl rfl)) (pss_cons (ps_set (i := 4) sc_law.nd rfl (Or.inl rfl) (pe_call (ok_law_draw T) (hr.mono (by decide)) (by rfl) T.g_law_draw T.F_law_draw.kp T.b_law_draw .nil pass0 (pa_cons (pv 1) (pa_cons (pv 0) (pa_cons (pe_callB (r := rLenS K) call_len_seq (by rfl) T.m_len PySem.boot_len (pa_cons (pv 2) pa_nil)) pa_nil)))))
        (pss_cons (ps_set (i := 5) sc_law.nd rfl (Or.inl rfl) (pe_ix (r := rIxL K) ix_list (pe_lst (pa_cons (pe_call (ok_law_draw T) (hr.mono (by decide)) (by rfl) T.g_law_draw T.F_law_draw.kp T.b_law_draw .nil pass0 (pa_cons (pv 1) (pa_cons (pv 0) (pa_cons pe_int pa_nil)))) (pa_cons pe_int (pa_cons pe_int (pa_cons (pe_op op_add pe_int (pe_call (ok_law_draw T) (hr.mono (by decide)) (by rfl) T.g_law_draw T.F_law_draw.kp T.b_law_draw .nil pass0 (pa_cons (pv 1) (pa_cons (pv 0) (pa_cons pe_int pa_nil))))) pa_nil))))) (pe_call (ok_law_draw T) (hr.mono (by decide)) (by rfl) T.g_law_draw T.F_law_draw.kp T.b_law_draw .nil pass0 (pa_cons (pv 1) (pa_cons (pv 0) (pa_cons pe_int pa_nil)))) (fun _ _ => rfl)))
        (pss_one (ps_asg (pv 5) (pg_sub (pv 2) (pv 4) set_list))))))
      (pss_cons (ps_set (i := 4) sc_law.nd rfl (Or.inl rfl) (pe_call (ok_law_draw T) (hr.mono (by decide)) (by rfl) T.g_law_draw T.F_law_draw.kp T.b_law_draw .nil pass0 (pa_cons (pv 1) (pa_cons (pv 0) (pa_cons (pe_callB (r := rLenS K) call_len_seq (by rfl) T.m_len PySem.boot_len (pa_cons (pv 2) pa_nil)) pa_nil)))))
      (pss_cons (ps_set (i := 6) sc_law.nd rfl (Or.inl rfl) (pe_call (ok_law_draw T) (hr.mono (by decide)) (by rfl) T.g_law_draw T.F_law_draw.kp T.b_law_draw .nil pass0 (pa_cons (pv 1) (pa_cons (pv 0) (pa_cons pe_int pa_nil)))))
      (pss_cons (ps_if (pt_cmpR op_eq (pv 6) pe_int (nomark _)) (pss_one (ps_set (i := 2) sc_law.nd rfl (Or.inl rfl) (pe_op op_cat (pe_slice (r := rSlL K) sl_list (pv 2) po_none (po_some (pv 4))) (pe_slice (r := rSlL K) sl_list (pv 2) (po_some (pe_op op_add (pv 4) pe_int)) po_none)))) pss_nil)
      (pss_cons (ps_if (pt_cmpR op_eq (pv 6) pe_int (nomark _)) (pss_one (ps_set (i := 2) sc_law.nd rfl (Or.inl rfl) (pe_op op_cat (pe_op op_cat (pe_slice (r := rSlL K) sl_list (pv 2) po_none (po_some (pv 4))) (pe_lst (pa_cons (pe_call (ok_law_draw T) (hr.mono (by decide)) (by rfl) T.g_law_draw T.F_law_draw.kp T.b_law_draw .nil pass0 (pa_cons (pv 1) (pa_cons (pv 0) (pa_cons pe_int pa_nil)))) pa_nil))) (pe_slice (r := rSlL K) sl_list (pv 2) (po_some (pv 4)) po_none)))) pss_nil)
      (pss_cons (ps_if (PW.pt (pw_and (pt_cmpR op_eq (pv 6) pe_int (nomark _)) (pw_and1 (pt_cmpR op_eq (pe_call (ok_law_draw T) (hr.mono (by decide)) (by rfl) T.g_law_draw T.F_law_draw.kp T.b_law_draw .nil pass0 (pa_cons (pv 1) (pa_cons (pv 0) (pa_cons pe_int pa_nil)))) pe_int (nomark _))))) (pss_one (ps_set (i := 2) sc_law.nd rfl (Or.inl rfl) (pe_slice (r := rSlL K) sl_list (pv 2) po_none (po_some (pv 4))))) pss_nil)
      (pss_cons (ps_set (i := 7) sc_law.nd rfl (Or.inl rfl) (pe_call (ok_law_junk T) (hr.mono (by decide)) (by rfl) T.g_law_junk T.F_law_junk.kp T.b_law_junk .nil pass0 (pa_cons (pv 1) (pa_cons (pv 0) (pa_cons (pe_call (ok_law_draw T) (hr.mono (by decide)) (by rfl) T.g_law_draw T.F_law_draw.kp T.b_law_draw .nil pass0 (pa_cons (pv 1) (pa_cons (pv 0) (pa_cons pe_int pa_nil)))) pa_nil)))))
      (pss_cons (ps_set (i := 8) sc_law.nd rfl (Or.inl rfl) (pe_op op_cat (pe_op op_cat (pv 7) (pv 2)) (pe_call (ok_law_junk T) (hr.mono (by decide)) (by rfl) T.g_law_junk T.F_law_junk.kp T.b_law_junk .nil pass0 (pa_cons (pv 1) (pa_cons (pv 0) (pa_cons (pe_call (ok_law_draw T) (hr.mono (by decide)) (by rfl) T.g_law_draw T.F_law_draw.kp T.b_law_draw .nil pass0 (pa_cons (pv 1) (pa_cons (pv 0) (pa_cons pe_int pa_nil)))) pa_nil))))))
      (pss_cons (ps_set (i := 9) sc_law.nd rfl (Or.inl rfl) (pe_op op_add (pe_callB (r := rLenS K) call_len_seq (by rfl) T.m_len PySem.boot_len (pa_cons (pv 7) pa_nil)) (pe_callB (r := rLenS K) call_len_seq (by rfl) T.m_len PySem.boot_len (pa_cons (pv 2) pa_nil))))
      (pss_one (ps_ret (pe_cmpR (op_eqD (hu64 hr)) (pe_call (ok_law_outcome T) (hr.mono (by decide)) (by rfl) T.g_law_outcome T.F_law_outcome.kp T.b_law_outcome .nil pass0 (pa_cons (pv 8) (pa_cons (pe_callB (r := rLenS K) call_len_seq (by rfl) T.m_len PySem.boot_len (pa_cons (pv 7) pa_nil)) (pa_cons (pv 9) pa_nil)))) (pe_call (ok_law_expected T) (hr.mono (by decide)) (by rfl) T.g_law_expected T.F_law_expected.kp T.b_law_expected .nil pass0 (pa_cons (pv 8) (pa_cons (pe_callB (r := rLenS K) call_len_seq (by rfl) T.m_len PySem.boot_len (pa_cons (pv 7) pa_nil)) (pa_cons (pv 9) pa_nil)))) (nomark _))))))))))))))), ?_⟩
  refine q_asgL (xs := [.int 0, .int 0]) (el_lst (ea_cons ev_c (ea_cons ev_c ea_nil)) (by decide)) fun s H1 hs e1 gs => ?_
  have hd1 : DrS K H1 s a ns := ⟨⟨0, 0, gs⟩, scr_mk hs e1 hS⟩
  clear gs e1 hS hs
  show tSeq _ _ _ [some (.ref a), some (.ref s), none, none, none, none, none, none, none, none] _
  refine qw_call2 (xw_text (m := 4) hd1 rfl rfl ev_c (by decide)) (fun v G G' f ⟨p, xs, h1, h2, h3, h4⟩ => ⟨p, xs, h1, h2, f.l (ne_st hd1.1 h2) h3, h4⟩) (fun G f => xw_ents (hd1.fr f) rfl rfl ev_c) fun v1 v2 H2 f2 hv1 hv2 => ?_
  obtain ⟨pw, vd, rfl, _, gv, hvl, hvo⟩ := hv1
  obtain ⟨pe, as, es, rfl, ge, hE, hel, heo, heb⟩ := hv2
  have hul := utfB_len vd
  have hcl := cm_len vd es
  have hO : CmOk vd es := ⟨hvo, by omega, heo, by omega, by omega⟩
  refine ⟨pw, pe, as, vd, es, rfl, gv, ge, hE, hO, fun pb H3 hpb e3 gb => ?_⟩
  have hd2 := hd1.fr f2
  have f3 : Fr s H2 H3 := Fr.ex hd2.1 e3
  have hd3 := hd2.fr f3
  have hBd : BdL s H3 pb (cmB vd es) 120 := ⟨ne_st f2.2 hpb, gb, cmB_lt hO, by omega⟩
  have hpos : 0 < (cmB vd es).length := by omega
  generalize cmB vd es = B0 at *
  clear hd1 gv hvl hvo ge hE hel heo heb hul hcl hO f2 e3 gb
  show tSeq _ _ _ [some (.ref a), some (.ref s), some (.ref pb), none, none, none, none, none, none, none] _
  refine qw_forR1 (wi_draw (n := 3) hd3 rfl rfl ev_c (by decide) (by decide)) (fun i hi => by obtain ⟨d, rfl, h⟩ := hi; omega) (fun n i σ' H' => ∃ (B : List Nat) (z3 z4 z5 : Option V), σ' = [some (.ref a), some (.ref s), some (.ref pb), z3, z4, z5, none, none, none, none] ∧ Fr s H2 H' ∧ BdL s H' pb B 120 ∧ 0 < B.length) (fun n H4 _ f4 => ⟨B0, none, none, none, rfl, f3.trans f4, hBd.fr f4 (Nat.le_refl _), hpos⟩) ?_ ?_
  · rintro n i σ' H4 hn hi ⟨B, z3, z4, z5, rfl, f4, hB4, hp4⟩
    have hd4 := hd2.fr f4
    obtain ⟨b1, b2, b3, b4⟩ := hB4
    refine qw_asg (wi_draw (n := (B.length : Int)) hd4 rfl rfl (Ev.is (ev_lenS (K := K) (Ev.s (ev_var rfl) (sq_of b2))) (by rw [List.length_map, cs_len])) (by omega) (by omega)) fun z H5 f5 hz => ?_
    obtain ⟨at_, rfl, hat⟩ := hz
    have hd5 := hd4.fr f5
    have g5 := f5.l b1 b2
    refine qw_asg (wi_ix4 (K := K) (p := fun z => ∃ d : Nat, z = (d : Int) ∧ d < 256) (wi_im (wi_draw (n := 256) hd5 rfl rfl ev_c (by decide) (by decide)) fun z hz => by obtain ⟨d, rfl, h⟩ := hz; exact ⟨d, rfl, by omega⟩) (fun G f => wi_im (wi_ev f.2 ev_c) fun z hz => ⟨0, by rw [hz]; rfl, by decide⟩) (fun G f => wi_im (wi_ev f.2 ev_c) fun z hz => ⟨61, by rw [hz]; rfl, by decide⟩) (fun G f => wi_im (wi_op (g := fun i j => i + j) (wi_ev f.2 ev_c) fun G2 f2 => wi_draw (n := 12) ((hd5.fr f).fr f2) rfl rfl ev_c (by decide) (by decide)) fun z hz => by obtain ⟨_, _, rfl, ⟨d, rfl, h⟩, rfl⟩ := hz; exact ⟨d + 1, by omega, by omega⟩) (fun G f => wi_im (wi_draw (n := 4) (hd5.fr f) rfl rfl ev_c (by decide) (by decide)) fun z hz => by obtain ⟨d, rfl, h⟩ := hz; exact ⟨d, rfl, by omega⟩)) fun z H6 f6 hz => ?_
    obtain ⟨by_, rfl, hby⟩ := hz
    have hd6 := hd5.fr f6
    have g6 := f6.l b1 g5
    refine sw_setLR (s := s) (P := fun v => v = .int (by_ : Int)) (fun Q0 k0 => ev_go (v := .int (by_ : Int)) (ev_var rfl) fun H7 e7 => k0 _ H7 (Fr.ex f6.2 e7) rfl) b1 g6 (fun _ => ev_var rfl) (fun _ => ev_var rfl) (j := at_) (by rw [List.length_map, cs_len]; omega) fun v H7 hv f7 => ?_
    rw [hv]
    have hd7 := hd6.fr f7
    have hset : ((cs B).map V.int).set at_ (.int (by_ : Int)) = (cs (B.set at_ by_)).map V.int := by
      rw [← List.map_set, cs_set]
    rw [hset]
    refine ⟨B.set at_ by_, _, _, _, rfl, (((f4.trans f5).trans f6).trans f7).mut hpb b1, ⟨b1, upd_same, fun d hd => ?_, by rw [List.length_set]; exact b4⟩, by rw [List.length_set]; exact hp4⟩
    rcases List.mem_or_eq_of_mem_set hd with h | rfl
    · exact b3 d h
    · exact hby
  rintro n σ' H4 hn ⟨B, z3, z4, z5, rfl, f4, hB4, hp4⟩
  have hd4 := hd2.fr f4
  refine qw_asg (wi_draw (n := (B.length : Int)) hd4 rfl rfl (Ev.is (ev_lenS (K := K) (Ev.s (ev_var rfl) (sq_of hB4.2.1))) (by rw [List.length_map, cs_len])) (by omega) (by have := hB4.2.2.2; omega)) fun z H5 f5 hz => ?_
  obtain ⟨at_, rfl, hat⟩ := hz
  have f05 := f4.trans f5
  refine qw_asg (wi_draw (n := 4) (hd2.fr f05) rfl rfl ev_c (by decide) (by decide)) fun z H6 f6 hz => ?_
  obtain ⟨kd, rfl, hkd⟩ := hz
  have f06 := f05.trans f6
  have hB6 := hB4.fr (f5.trans f6) (Nat.le_refl _)
  clear hB4 hBd hpos hd3 hp4 f3 hat hn f4 f5 f05 f6 hd4
  show tSeq _ _ _ [some (.ref a), some (.ref s), some (.ref pb), z3, some (.int (at_ : Int)), z5, some (.int (kd : Int)), none, none, none] _
  refine qw_whenS (R := fun σ' G => ∃ (pb : Addr) (B : List Nat), σ' = [some (.ref a), some (.ref s), some (.ref pb), z3, some (.int (at_ : Int)), z5, some (.int (kd : Int)), none, none, none] ∧ Fr s H2 G ∧ BdL s G pb B 240) (wt_ev f06.2 (et_test (ev_eq (x := .int (kd : Int)) (y := .int 1) (ev_var rfl) ev_c rfl))) (fun _ D' H7 f7 kk => ?_) (fun _ H7 f7 => ⟨pb, B, rfl, f06.trans f7, hB6.fr f7 (by decide)⟩) fun σ' H7 hR => ?_
  · obtain ⟨b1, b2, b3, b4⟩ := hB6.fr f7 (Nat.le_refl _)
    refine s_asgL (xs := (cs (B.take at_ ++ B.drop (at_ + 1))).map V.int) (EvL.is (el_cat (EvL.r (el_to (i := at_) (Ev.s (ev_var rfl) (sq_of b2)) (ev_var rfl))) (EvL.r (el_from (i := at_ + 1) (Ev.s (ev_var rfl) (sq_of b2)) (Ev.is (ev_I0 (g := fun i j => .int (i + j)) (ev_var rfl) ev_c) (congrArg V.int (by omega))))) (by rw [List.length_map, List.length_map, List.length_take, List.length_drop, cs_len]; omega)) (by rw [← List.map_append, cs_take, cs_drop, ← cs_append])) fun r H8 hr8 e8 g8 => kk _ H8 ⟨r, _, rfl, (f06.trans f7).tex e8, ne_st f7.2 hr8, g8, byte_cs (fun d h => b3 d (List.mem_of_mem_take h)) (fun d h => b3 d (List.mem_of_mem_drop h)), by rw [List.length_append, List.length_take, List.length_drop]; omega⟩
  obtain ⟨pb1, B1, rfl, f07, hB7⟩ := hR
  clear hB6 f06 hpb
  refine qw_whenS (R := fun σ' G => ∃ (pb : Addr) (B : List Nat), σ' = [some (.ref a), some (.ref s), some (.ref pb), z3, some (.int (at_ : Int)), z5, some (.int (kd : Int)), none, none, none] ∧ Fr s H2 G ∧ BdL s G pb B 500) (wt_ev f07.2 (et_test (ev_eq (x := .int (kd : Int)) (y := .int 2) (ev_var rfl) ev_c rfl))) (fun _ D' H8 f8 kk => ?_) (fun _ H8 f8 => ⟨pb1, B1, rfl, f07.trans f8, hB7.fr f8 (by decide)⟩) fun σ' H8 hR => ?_
  · obtain ⟨b1, b2, b3, b4⟩ := hB7.fr f8 (Nat.le_refl _)
    have f08 := f07.trans f8
    refine sw_asgL (wl_catE (wl_cat f8.2 (el_to (i := at_) (Ev.s (ev_var rfl) (sq_of b2)) (ev_var rfl)) (fun G f => wl_one (wi_draw (n := 256) (hd2.fr (f08.trans f)) rfl rfl ev_c (by decide) (by decide))) (fun ys h => by obtain ⟨x, _, rfl⟩ := h; rw [List.length_map, List.length_take, cs_len]; show _ + 1 ≤ _; omega)) (fun G f => el_from (i := at_) (Ev.s (ev_var rfl) (sq_of (f.l b1 b2))) (ev_var rfl)) (fun xs h => by obtain ⟨_, ⟨x, _, rfl⟩, rfl⟩ := h; rw [List.length_append, List.length_map, List.length_map, List.length_take, List.length_drop, cs_len]; show _ + 1 + _ ≤ _; omega)) fun r zs H9 hr9 f9 g9 hz => ?_
    obtain ⟨_, ⟨_, ⟨_, ⟨d, rfl, hd256⟩, rfl⟩, rfl⟩, rfl⟩ := hz
    refine kk _ H9 ⟨r, B1.take at_ ++ [d] ++ B1.drop at_, rfl, f08.trans f9, ne_st f8.2 hr9, ?_, byte_cs (byte_cs (fun d h => b3 d (List.mem_of_mem_take h)) (fun y h => by rw [List.mem_singleton.mp h]; omega)) (fun d h => b3 d (List.mem_of_mem_drop h)), by rw [List.length_append, List.length_append, List.length_take, List.length_drop]; show _ + 1 + _ ≤ _; omega⟩
    rw [g9, cs_append, cs_append, List.map_append, List.map_append, cs_take, cs_drop]
    rfl
  obtain ⟨pb2, B2, rfl, f08, hB8⟩ := hR
  clear hB7 f07
  refine qw_whenS (R := fun σ' G => ∃ (pb : Addr) (B : List Nat), σ' = [some (.ref a), some (.ref s), some (.ref pb), z3, some (.int (at_ : Int)), z5, some (.int (kd : Int)), none, none, none] ∧ Fr s H2 G ∧ BdL s G pb B 500) (wt_and (wt_ev f08.2 (et_test (ev_eq (x := .int (kd : Int)) (y := .int 3) (ev_var rfl) ev_c rfl))) fun G f _ => wt_eq (wi_draw (n := 2) (hd2.fr (f08.trans f)) rfl rfl ev_c (by decide) (by decide)) fun G2 f2 => wi_ev ((f08.trans f).trans f2).2 ev_c) (fun _ D' H9 f9 kk => ?_) (fun _ H9 f9 => ⟨pb2, B2, rfl, f08.trans f9, hB8.fr f9 (by decide)⟩) fun σ' H9 hR => ?_
  · obtain ⟨b1, b2, b3, b4⟩ := hB8.fr f9 (Nat.le_refl _)
    refine s_asgL (xs := (cs (B2.take at_)).map V.int) (EvL.is (el_to (i := at_) (Ev.s (ev_var rfl) (sq_of b2)) (ev_var rfl)) (by rw [cs_take])) fun r H10 hr8 e8 g8 => kk _ H10 ⟨r, _, rfl, (f08.trans f9).tex e8, ne_st f9.2 hr8, g8, fun d h => b3 d (List.mem_of_mem_take h), by rw [List.length_take]; omega⟩
  obtain ⟨pb3, B3, rfl, f09, b1, b2, b3, b4⟩ := hR
  clear hB8 f08
  refine qw_asgL (wl_junk (hd2.fr f09) rfl rfl (wi_draw (n := 4) (hd2.fr f09) rfl rfl ev_c (by decide) (by decide)) (fun z hz => by obtain ⟨d, rfl, hd⟩ := hz; omega)) fun pf xs G4 hpf f4 gf hP => ?_
  obtain ⟨ds, rfl, _, ⟨d1, hd1, hd1'⟩, hdb⟩ := hP
  have f04 := f09.trans f4
  have gb4 := f4.l b1 b2
  have nfs : pf ≠ s := ne_st f09.2 hpf
  refine qw_asgL (wl_cat f04.2 (el_cat (Ev.r (ev_var rfl) gf) (Ev.r (ev_var rfl) gb4) (by rw [List.length_map, cs_len, List.length_map, cs_len]; omega)) (fun G f => wl_junk (hd2.fr (f04.trans f)) rfl rfl (wi_draw (n := 5) (hd2.fr (f04.trans f)) rfl rfl ev_c (by decide) (by decide)) (fun z hz => by obtain ⟨d, rfl, hd⟩ := hz; omega)) (fun ys h => by obtain ⟨d2, rfl, h2, _⟩ := h; rw [List.length_append, List.length_map, cs_len, List.length_map, cs_len, List.length_map, cs_len]; omega)) fun pd xs G5 hpd f5 gd hP => ?_
  obtain ⟨_, ⟨ds2, rfl, _, ⟨d2, hd2', hd2''⟩, hdb2⟩, rfl⟩ := hP
  rw [map_cs2, map_cs2] at gd
  have gb5 := f5.l b1 gb4
  have gf5 := f5.l nfs gf
  show tSeq _ _ _ [some (.ref a), some (.ref s), some (.ref pb3), z3, some (.int (at_ : Int)), z5, some (.int (kd : Int)), some (.ref pf), some (.ref pd), none] _
  refine q_asg (v := .int ((ds.length + B3.length : Nat) : Int)) (Ev.is (ev_I0 (g := fun i j => .int (i + j)) (ev_lenS (K := K) (Ev.s (ev_var rfl) (sq_of gf5))) (ev_lenS (K := K) (Ev.s (ev_var rfl) (sq_of gb5)))) (congrArg V.int (by rw [List.length_map, cs_len, List.length_map, cs_len]; omega))) fun G6 e6 => ?_
  have hL : (ds ++ B3 ++ ds2).length = ds.length + B3.length + ds2.length := by rw [List.length_append, List.length_append]
  have hall := byte_cs (byte_cs hdb b3) hdb2
  have ev : ∀ {E : XK} , EvD K (tCall (sp_lex K) [] E (tCons (tVar 8) (tCons (tCB (rLenS K) (tCons (tVar 7) tNil)) (tCons (tVar 9) tNil)))) [some (.ref a), some (.ref s), some (.ref pb3), z3, some (.int (at_ : Int)), z5, some (.int (kd : Int)), some (.ref pf), some (.ref pd), some (.int ((ds.length + B3.length : Nat) : Int))] G6 (cmD (ds ++ B3 ++ ds2) ds.length (ds.length + B3.length)) := ed_lex (sp := sp_lex K) (ev_var rfl) (Ev.is (ev_lenS (K := K) (Ev.s (ev_var rfl) (sq_of (e6 _ _ gf5)))) (by rw [List.length_map, cs_len])) (ev_var rfl) (sq_of (e6 _ _ gd)) (by omega) hall (by omega) (by omega)
  exact s_ret (v := .bl true) (ev_eqDD ev ev (cmD_shaped _ _ _)) fun H6 _ => k H6

-- K51Z
end
theorem ml1 {α : Type} : ∀ {us : List α}, us.length = 1 → ∃ x0, us = [x0]
  | [x0], _ => ⟨x0, rfl⟩
theorem ml2 {α : Type} : ∀ {us : List α}, us.length = 2 → ∃ x0 x1, us = [x0, x1]
  | [x0, x1], _ => ⟨x0, x1, rfl⟩
theorem ml3 {α : Type} : ∀ {us : List α}, us.length = 3 → ∃ x0 x1 x2, us = [x0, x1, x2]
  | [x0, x1, x2], _ => ⟨x0, x1, x2, rfl⟩
set_option maxHeartbeats 0 in
theorem all_mk {l : PySem.W.OpenLaw} {w : World} {K : PySem.W.Frag} {h : Heap} {mg : Str → Option Value} {fa : Addr} {f1 f2 f3 f4 f5 f6 f7 f8 f9 f10 f11 f12 f13 f14 f15 f16 f17 f18 f19 f20 f21 f22 f23 f24 f25 f26 f27 f28 f29 f30 f31 f32 f33 C_Comments C_MonochordError C_InvalidForm C_InvalidText : Addr} (X : K.In h) (G : h.Ns mainGlobals mg) (hfa : mg "law" = some (.ref fa))
    {od1 an1 : Option Addr} {sl1 : Array (Option Value)} {oc1 dc1 pm1 cd1 ct1 : Value} {kV1 : Value} {od2 an2 : Option Addr} {sl2 : Array (Option Value)} {oc2 dc2 pm2 cd2 ct2 : Value} {kV2 : Value} {od3 an3 : Option Addr} {sl3 : Array (Option Value)} {oc3 dc3 pm3 cd3 ct3 : Value} {kV3 : Value} {od4 an4 : Option Addr} {sl4 : Array (Option Value)} {oc4 dc4 pm4 cd4 ct4 : Value} {kV4 : Value} {od5 an5 : Option Addr} {sl5 : Array (Option Value)} {oc5 dc5 pm5 cd5 ct5 : Value} {kV5 : Value} {od6 an6 : Option Addr} {sl6 : Array (Option Value)} {oc6 dc6 pm6 cd6 ct6 : Value} {kV6 : Value} {od7 an7 : Option Addr} {sl7 : Array (Option Value)} {oc7 dc7 pm7 cd7 ct7 : Value} {kV7 : Value} {od8 an8 : Option Addr} {sl8 : Array (Option Value)} {oc8 dc8 pm8 cd8 ct8 : Value} {kV8 : Value} {od9 an9 : Option Addr} {sl9 : Array (Option Value)} {oc9 dc9 pm9 cd9 ct9 : Value} {kV9 : Value} {od10 an10 : Option Addr} {sl10 : Array (Option Value)} {oc10 dc10 pm10 cd10 ct10 : Value} {kV10 : Value} {od11 an11 : Option Addr} {sl11 : Array (Option Value)} {oc11 dc11 pm11 cd11 ct11 : Value} {kV11 : Value} {od12 an12 : Option Addr} {sl12 : Array (Option Value)} {oc12 dc12 pm12 cd12 ct12 : Value} {kV12 : Value} {od13 an13 : Option Addr} {sl13 : Array (Option Value)} {oc13 dc13 pm13 cd13 ct13 : Value} {kV13 : Value} {od14 an14 : Option Addr} {sl14 : Array (Option Value)} {oc14 dc14 pm14 cd14 ct14 : Value} {kV14 : Value} {od15 an15 : Option Addr} {sl15 : Array (Option Value)} {oc15 dc15 pm15 cd15 ct15 : Value} {kV15 : Value} {od16 an16 : Option Addr} {sl16 : Array (Option Value)} {oc16 dc16 pm16 cd16 ct16 : Value} {kV16 : Value} {od17 an17 : Option Addr} {sl17 : Array (Option Value)} {oc17 dc17 pm17 cd17 ct17 : Value} {kV17 : Value} {od18 an18 : Option Addr} {sl18 : Array (Option Value)} {oc18 dc18 pm18 cd18 ct18 : Value} {kV18 : Value} {od19 an19 : Option Addr} {sl19 : Array (Option Value)} {oc19 dc19 pm19 cd19 ct19 : Value} {kV19 : Value} {od20 an20 : Option Addr} {sl20 : Array (Option Value)} {oc20 dc20 pm20 cd20 ct20 : Value} {kV20 : Value} {od21 an21 : Option Addr} {sl21 : Array (Option Value)} {oc21 dc21 pm21 cd21 ct21 : Value} {kV21 : Value} {od22 an22 : Option Addr} {sl22 : Array (Option Value)} {oc22 dc22 pm22 cd22 ct22 : Value} {kV22 : Value} {od23 an23 : Option Addr} {sl23 : Array (Option Value)} {oc23 dc23 pm23 cd23 ct23 : Value} {kV23 : Value} {od24 an24 : Option Addr} {sl24 : Array (Option Value)} {oc24 dc24 pm24 cd24 ct24 : Value} {kV24 : Value} {od25 an25 : Option Addr} {sl25 : Array (Option Value)} {oc25 dc25 pm25 cd25 ct25 : Value} {kV25 : Value} {od26 an26 : Option Addr} {sl26 : Array (Option Value)} {oc26 dc26 pm26 cd26 ct26 : Value} {kV26 : Value} {od27 an27 : Option Addr} {sl27 : Array (Option Value)} {oc27 dc27 pm27 cd27 ct27 : Value} {kV27 : Value} {od28 an28 : Option Addr} {sl28 : Array (Option Value)} {oc28 dc28 pm28 cd28 ct28 : Value} {kV28 : Value} {od29 an29 : Option Addr} {sl29 : Array (Option Value)} {oc29 dc29 pm29 cd29 ct29 : Value} {kV29 : Value} {od30 an30 : Option Addr} {sl30 : Array (Option Value)} {oc30 dc30 pm30 cd30 ct30 : Value} {kV30 : Value} {od31 an31 : Option Addr} {sl31 : Array (Option Value)} {oc31 dc31 pm31 cd31 ct31 : Value} {kV31 : Value} {od32 an32 : Option Addr} {sl32 : Array (Option Value)} {oc32 dc32 pm32 cd32 ct32 : Value} {kV32 : Value} {od33 an33 : Option Addr} {sl33 : Array (Option Value)} {oc33 dc33 pm33 cd33 ct33 : Value} {kV33 : Value} {xn_MonochordError xq_MonochordError : Str} {xN_MonochordError : Addr} {xb_MonochordError : List Value} {xs_MonochordError : List Str} {xu_MonochordError : List Value} {xa_MonochordError : Bool} {xc_MonochordError : Option Bool} {xd_MonochordError : Option Addr} {xj0_MonochordError xj1_MonochordError xj3_MonochordError xj5_MonochordError : Option Value} {xt_MonochordError : Tok} {xn_InvalidForm xq_InvalidForm : Str} {xN_InvalidForm : Addr} {xb_InvalidForm : List Value} {xs_InvalidForm : List Str} {xu_InvalidForm : List Value} {xa_InvalidForm : Bool} {xc_InvalidForm : Option Bool} {xd_InvalidForm : Option Addr} {xj0_InvalidForm xj1_InvalidForm xj3_InvalidForm xj5_InvalidForm : Option Value} {xt_InvalidForm : Tok} {xn_InvalidText xq_InvalidText : Str} {xN_InvalidText : Addr} {xb_InvalidText : List Value} {xs_InvalidText : List Str} {xu_InvalidText : List Value} {xa_InvalidText : Bool} {xc_InvalidText : Option Bool} {xd_InvalidText : Option Addr} {xj0_InvalidText xj1_InvalidText xj3_InvalidText xj5_InvalidText : Option Value} {xt_InvalidText : Tok} {u_EQUALS : Value}
    (a1 : PySem.W.findIn K (.ref C_MonochordError) "__init__" = some (some (.ref f1))) (i1 : PySem.W.isFn K (.ref f1) = true)
    (l1 : K.lookup f1 = some ⟨oc1, od1, .func (PySem.W.fnOf "__init__" "MonochordError.__init__" (defArgs s_MonochordError_init) (defBody s_MonochordError_init) (defScope s_MonochordError_init) .none kV1 dc1 pm1 an1 cd1 ct1), sl1⟩) (c1 : PySem.W.codeIn K cd1 "MonochordError.__init__" = true) (k1 : PySem.W.keepIn K (.ref f1) = true)
    (a2 : PySem.W.nsIn K mainGlobals "write_utf8" = some (some (.ref f2)))
    (l2 : K.lookup f2 = some ⟨oc2, od2, .func (PySem.W.fnOf "write_utf8" "write_utf8" (defArgs s_write_utf8) (defBody s_write_utf8) (defScope s_write_utf8) .none kV2 dc2 pm2 an2 cd2 ct2), sl2⟩) (c2 : PySem.W.codeIn K cd2 "write_utf8" = true) (k2 : PySem.W.keepIn K (.ref f2) = true)
    (a3 : PySem.W.nsIn K mainGlobals "read_utf8" = some (some (.ref f3)))
    (l3 : K.lookup f3 = some ⟨oc3, od3, .func (PySem.W.fnOf "read_utf8" "read_utf8" (defArgs s_read_utf8) (defBody s_read_utf8) (defScope s_read_utf8) .none kV3 dc3 pm3 an3 cd3 ct3), sl3⟩) (c3 : PySem.W.codeIn K cd3 "read_utf8" = true) (k3 : PySem.W.keepIn K (.ref f3) = true)
    (a4 : PySem.W.nsIn K mainGlobals "_point_count" = some (some (.ref f4)))
    (l4 : K.lookup f4 = some ⟨oc4, od4, .func (PySem.W.fnOf "_point_count" "_point_count" (defArgs s_point_count) (defBody s_point_count) (defScope s_point_count) .none kV4 dc4 pm4 an4 cd4 ct4), sl4⟩) (c4 : PySem.W.codeIn K cd4 "_point_count" = true) (k4 : PySem.W.keepIn K (.ref f4) = true)
    (a5 : PySem.W.nsIn K mainGlobals "_least_first" = some (some (.ref f5)))
    (l5 : K.lookup f5 = some ⟨oc5, od5, .func (PySem.W.fnOf "_least_first" "_least_first" (defArgs s_least_first) (defBody s_least_first) (defScope s_least_first) .none kV5 dc5 pm5 an5 cd5 ct5), sl5⟩) (c5 : PySem.W.codeIn K cd5 "_least_first" = true) (k5 : PySem.W.keepIn K (.ref f5) = true)
    (a6 : PySem.W.nsIn K mainGlobals "_point_bytes" = some (some (.ref f6)))
    (l6 : K.lookup f6 = some ⟨oc6, od6, .func (PySem.W.fnOf "_point_bytes" "_point_bytes" (defArgs s_point_bytes) (defBody s_point_bytes) (defScope s_point_bytes) .none kV6 dc6 pm6 an6 cd6 ct6), sl6⟩) (c6 : PySem.W.codeIn K cd6 "_point_bytes" = true) (k6 : PySem.W.keepIn K (.ref f6) = true)
    (a7 : PySem.W.nsIn K mainGlobals "_count_told" = some (some (.ref f7)))
    (l7 : K.lookup f7 = some ⟨oc7, od7, .func (PySem.W.fnOf "_count_told" "_count_told" (defArgs s_count_told) (defBody s_count_told) (defScope s_count_told) .none kV7 dc7 pm7 an7 cd7 ct7), sl7⟩) (c7 : PySem.W.codeIn K cd7 "_count_told" = true) (k7 : PySem.W.keepIn K (.ref f7) = true)
    (a8 : PySem.W.nsIn K mainGlobals "_read_point" = some (some (.ref f8)))
    (l8 : K.lookup f8 = some ⟨oc8, od8, .func (PySem.W.fnOf "_read_point" "_read_point" (defArgs s_read_point) (defBody s_read_point) (defScope s_read_point) .none kV8 dc8 pm8 an8 cd8 ct8), sl8⟩) (c8 : PySem.W.codeIn K cd8 "_read_point" = true) (k8 : PySem.W.keepIn K (.ref f8) = true)
    (a9 : PySem.W.nsIn K mainGlobals "little_bytes" = some (some (.ref f9)))
    (l9 : K.lookup f9 = some ⟨oc9, od9, .func (PySem.W.fnOf "little_bytes" "little_bytes" (defArgs s_little_bytes) (defBody s_little_bytes) (defScope s_little_bytes) .none kV9 dc9 pm9 an9 cd9 ct9), sl9⟩) (c9 : PySem.W.codeIn K cd9 "little_bytes" = true) (k9 : PySem.W.keepIn K (.ref f9) = true)
    (a10 : PySem.W.nsIn K mainGlobals "little_number" = some (some (.ref f10)))
    (l10 : K.lookup f10 = some ⟨oc10, od10, .func (PySem.W.fnOf "little_number" "little_number" (defArgs s_little_number) (defBody s_little_number) (defScope s_little_number) .none kV10 dc10 pm10 an10 cd10 ct10), sl10⟩) (c10 : PySem.W.codeIn K cd10 "little_number" = true) (k10 : PySem.W.keepIn K (.ref f10) = true)
    (a11 : PySem.W.nsIn K mainGlobals "check_inside" = some (some (.ref f11)))
    (l11 : K.lookup f11 = some ⟨oc11, od11, .func (PySem.W.fnOf "check_inside" "check_inside" (defArgs s_check_inside) (defBody s_check_inside) (defScope s_check_inside) .none kV11 dc11 pm11 an11 cd11 ct11), sl11⟩) (c11 : PySem.W.codeIn K cd11 "check_inside" = true) (k11 : PySem.W.keepIn K (.ref f11) = true)
    (a12 : PySem.W.findIn K (.ref C_Comments) "__init__" = some (some (.ref f12))) (i12 : PySem.W.isFn K (.ref f12) = true)
    (l12 : K.lookup f12 = some ⟨oc12, od12, .func (PySem.W.fnOf "__init__" "Comments.__init__" (defArgs s_Comments_init) (defBody s_Comments_init) (defScope s_Comments_init) .none kV12 dc12 pm12 an12 cd12 ct12), sl12⟩) (c12 : PySem.W.codeIn K cd12 "Comments.__init__" = true) (k12 : PySem.W.keepIn K (.ref f12) = true)
    (a13 : PySem.W.nsIn K mainGlobals "read_comments" = some (some (.ref f13)))
    (l13 : K.lookup f13 = some ⟨oc13, od13, .func (PySem.W.fnOf "read_comments" "read_comments" (defArgs s_read_comments) (defBody s_read_comments) (defScope s_read_comments) .none kV13 dc13 pm13 an13 cd13 ct13), sl13⟩) (c13 : PySem.W.codeIn K cd13 "read_comments" = true) (k13 : PySem.W.keepIn K (.ref f13) = true)
    (a14 : PySem.W.nsIn K mainGlobals "write_comments" = some (some (.ref f14)))
    (l14 : K.lookup f14 = some ⟨oc14, od14, .func (PySem.W.fnOf "write_comments" "write_comments" (defArgs s_write_comments) (defBody s_write_comments) (defScope s_write_comments) .none kV14 dc14 pm14 an14 cd14 ct14), sl14⟩) (c14 : PySem.W.codeIn K cd14 "write_comments" = true) (k14 : PySem.W.keepIn K (.ref f14) = true)
    (a15 : PySem.W.nsIn K mainGlobals "_read_length" = some (some (.ref f15)))
    (l15 : K.lookup f15 = some ⟨oc15, od15, .func (PySem.W.fnOf "_read_length" "_read_length" (defArgs s_read_length) (defBody s_read_length) (defScope s_read_length) .none kV15 dc15 pm15 an15 cd15 ct15), sl15⟩) (c15 : PySem.W.codeIn K cd15 "_read_length" = true) (k15 : PySem.W.keepIn K (.ref f15) = true)
    (a16 : PySem.W.nsIn K mainGlobals "_read_entry" = some (some (.ref f16)))
    (l16 : K.lookup f16 = some ⟨oc16, od16, .func (PySem.W.fnOf "_read_entry" "_read_entry" (defArgs s_read_entry) (defBody s_read_entry) (defScope s_read_entry) .none kV16 dc16 pm16 an16 cd16 ct16), sl16⟩) (c16 : PySem.W.codeIn K cd16 "_read_entry" = true) (k16 : PySem.W.keepIn K (.ref f16) = true)
    (a17 : PySem.W.nsIn K mainGlobals "_law_is_integer" = some (some (.ref f17)))
    (l17 : K.lookup f17 = some ⟨oc17, od17, .func (PySem.W.fnOf "_law_is_integer" "_law_is_integer" (defArgs s_law_is_integer) (defBody s_law_is_integer) (defScope s_law_is_integer) .none kV17 dc17 pm17 an17 cd17 ct17), sl17⟩) (c17 : PySem.W.codeIn K cd17 "_law_is_integer" = true) (k17 : PySem.W.keepIn K (.ref f17) = true)
    (a18 : PySem.W.nsIn K mainGlobals "_law_refill" = some (some (.ref f18)))
    (l18 : K.lookup f18 = some ⟨oc18, od18, .func (PySem.W.fnOf "_law_refill" "_law_refill" (defArgs s_law_refill) (defBody s_law_refill) (defScope s_law_refill) .none kV18 dc18 pm18 an18 cd18 ct18), sl18⟩) (c18 : PySem.W.codeIn K cd18 "_law_refill" = true) (k18 : PySem.W.keepIn K (.ref f18) = true)
    (a19 : PySem.W.nsIn K mainGlobals "_law_draw" = some (some (.ref f19)))
    (l19 : K.lookup f19 = some ⟨oc19, od19, .func (PySem.W.fnOf "_law_draw" "_law_draw" (defArgs s_law_draw) (defBody s_law_draw) (defScope s_law_draw) .none kV19 dc19 pm19 an19 cd19 ct19), sl19⟩) (c19 : PySem.W.codeIn K cd19 "_law_draw" = true) (k19 : PySem.W.keepIn K (.ref f19) = true)
    (a20 : PySem.W.nsIn K mainGlobals "_law_junk" = some (some (.ref f20)))
    (l20 : K.lookup f20 = some ⟨oc20, od20, .func (PySem.W.fnOf "_law_junk" "_law_junk" (defArgs s_law_junk) (defBody s_law_junk) (defScope s_law_junk) .none kV20 dc20 pm20 an20 cd20 ct20), sl20⟩) (c20 : PySem.W.codeIn K cd20 "_law_junk" = true) (k20 : PySem.W.keepIn K (.ref f20) = true)
    (a21 : PySem.W.nsIn K mainGlobals "_law_text" = some (some (.ref f21)))
    (l21 : K.lookup f21 = some ⟨oc21, od21, .func (PySem.W.fnOf "_law_text" "_law_text" (defArgs s_law_text) (defBody s_law_text) (defScope s_law_text) .none kV21 dc21 pm21 an21 cd21 ct21), sl21⟩) (c21 : PySem.W.codeIn K cd21 "_law_text" = true) (k21 : PySem.W.keepIn K (.ref f21) = true)
    (a22 : PySem.W.nsIn K mainGlobals "_law_name" = some (some (.ref f22)))
    (l22 : K.lookup f22 = some ⟨oc22, od22, .func (PySem.W.fnOf "_law_name" "_law_name" (defArgs s_law_name) (defBody s_law_name) (defScope s_law_name) .none kV22 dc22 pm22 an22 cd22 ct22), sl22⟩) (c22 : PySem.W.codeIn K cd22 "_law_name" = true) (k22 : PySem.W.keepIn K (.ref f22) = true)
    (a23 : PySem.W.nsIn K mainGlobals "_law_entries" = some (some (.ref f23)))
    (l23 : K.lookup f23 = some ⟨oc23, od23, .func (PySem.W.fnOf "_law_entries" "_law_entries" (defArgs s_law_entries) (defBody s_law_entries) (defScope s_law_entries) .none kV23 dc23 pm23 an23 cd23 ct23), sl23⟩) (c23 : PySem.W.codeIn K cd23 "_law_entries" = true) (k23 : PySem.W.keepIn K (.ref f23) = true)
    (a24 : PySem.W.nsIn K mainGlobals "_law_utf8" = some (some (.ref f24)))
    (l24 : K.lookup f24 = some ⟨oc24, od24, .func (PySem.W.fnOf "_law_utf8" "_law_utf8" (defArgs s_law_utf8) (defBody s_law_utf8) (defScope s_law_utf8) .none kV24 dc24 pm24 an24 cd24 ct24), sl24⟩) (c24 : PySem.W.codeIn K cd24 "_law_utf8" = true) (k24 : PySem.W.keepIn K (.ref f24) = true)
    (a25 : PySem.W.nsIn K mainGlobals "_law_little" = some (some (.ref f25)))
    (l25 : K.lookup f25 = some ⟨oc25, od25, .func (PySem.W.fnOf "_law_little" "_law_little" (defArgs s_law_little) (defBody s_law_little) (defScope s_law_little) .none kV25 dc25 pm25 an25 cd25 ct25), sl25⟩) (c25 : PySem.W.codeIn K cd25 "_law_little" = true) (k25 : PySem.W.keepIn K (.ref f25) = true)
    (a26 : PySem.W.nsIn K mainGlobals "_law_comment_bytes" = some (some (.ref f26)))
    (l26 : K.lookup f26 = some ⟨oc26, od26, .func (PySem.W.fnOf "_law_comment_bytes" "_law_comment_bytes" (defArgs s_law_comment_bytes) (defBody s_law_comment_bytes) (defScope s_law_comment_bytes) .none kV26 dc26 pm26 an26 cd26 ct26), sl26⟩) (c26 : PySem.W.codeIn K cd26 "_law_comment_bytes" = true) (k26 : PySem.W.keepIn K (.ref f26) = true)
    (a27 : PySem.W.nsIn K mainGlobals "_law_length" = some (some (.ref f27)))
    (l27 : K.lookup f27 = some ⟨oc27, od27, .func (PySem.W.fnOf "_law_length" "_law_length" (defArgs s_law_length) (defBody s_law_length) (defScope s_law_length) .none kV27 dc27 pm27 an27 cd27 ct27), sl27⟩) (c27 : PySem.W.codeIn K cd27 "_law_length" = true) (k27 : PySem.W.keepIn K (.ref f27) = true)
    (a28 : PySem.W.nsIn K mainGlobals "_law_text_fault" = some (some (.ref f28)))
    (l28 : K.lookup f28 = some ⟨oc28, od28, .func (PySem.W.fnOf "_law_text_fault" "_law_text_fault" (defArgs s_law_text_fault) (defBody s_law_text_fault) (defScope s_law_text_fault) .none kV28 dc28 pm28 an28 cd28 ct28), sl28⟩) (c28 : PySem.W.codeIn K cd28 "_law_text_fault" = true) (k28 : PySem.W.keepIn K (.ref f28) = true)
    (a29 : PySem.W.nsIn K mainGlobals "_law_number" = some (some (.ref f29)))
    (l29 : K.lookup f29 = some ⟨oc29, od29, .func (PySem.W.fnOf "_law_number" "_law_number" (defArgs s_law_number) (defBody s_law_number) (defScope s_law_number) .none kV29 dc29 pm29 an29 cd29 ct29), sl29⟩) (c29 : PySem.W.codeIn K cd29 "_law_number" = true) (k29 : PySem.W.keepIn K (.ref f29) = true)
    (a30 : PySem.W.nsIn K mainGlobals "_law_entry_fault" = some (some (.ref f30)))
    (l30 : K.lookup f30 = some ⟨oc30, od30, .func (PySem.W.fnOf "_law_entry_fault" "_law_entry_fault" (defArgs s_law_entry_fault) (defBody s_law_entry_fault) (defScope s_law_entry_fault) .none kV30 dc30 pm30 an30 cd30 ct30), sl30⟩) (c30 : PySem.W.codeIn K cd30 "_law_entry_fault" = true) (k30 : PySem.W.keepIn K (.ref f30) = true)
    (a31 : PySem.W.nsIn K mainGlobals "_law_expected" = some (some (.ref f31)))
    (l31 : K.lookup f31 = some ⟨oc31, od31, .func (PySem.W.fnOf "_law_expected" "_law_expected" (defArgs s_law_expected) (defBody s_law_expected) (defScope s_law_expected) .none kV31 dc31 pm31 an31 cd31 ct31), sl31⟩) (c31 : PySem.W.codeIn K cd31 "_law_expected" = true) (k31 : PySem.W.keepIn K (.ref f31) = true)
    (a32 : PySem.W.nsIn K mainGlobals "_law_outcome" = some (some (.ref f32)))
    (l32 : K.lookup f32 = some ⟨oc32, od32, .func (PySem.W.fnOf "_law_outcome" "_law_outcome" (defArgs s_law_outcome) (defBody s_law_outcome) (defScope s_law_outcome) .none kV32 dc32 pm32 an32 cd32 ct32), sl32⟩) (c32 : PySem.W.codeIn K cd32 "_law_outcome" = true) (k32 : PySem.W.keepIn K (.ref f32) = true)
    (a33 : PySem.W.nsIn K mainGlobals "law" = some (some (.ref f33)))
    (l33 : K.lookup f33 = some ⟨oc33, od33, .func (PySem.W.fnOf "law" "law" (defArgs s_law) (defBody s_law) (defScope s_law) .none kV33 dc33 pm33 an33 cd33 ct33), sl33⟩) (c33 : PySem.W.codeIn K cd33 "law" = true) (k33 : PySem.W.keepIn K (.ref f33) = true)
    (aC_Comments : PySem.W.nsIn K mainGlobals "Comments" = some (some (.ref C_Comments)))
    (pg_Comments : PySem.W.plainGet K C_Comments Str.empty = true) (hd_Comments : PySem.W.hasDictIn K C_Comments = true) (po_Comments : PySem.W.plainOver K C_Comments = true) (sa_Comments : PySem.W.findIn K (.ref C_Comments) "__setattr__" = some (some (.builtin "object.__setattr__"))) (mk_Comments : PySem.W.makesIn K C_Comments = true) (kc_Comments : PySem.W.keepIn K (.ref C_Comments) = true)
    (n_Comments_vendor : PySem.W.findIn K (.ref C_Comments) "vendor" = some none)
    (n_Comments_entries : PySem.W.findIn K (.ref C_Comments) "entries" = some none)
    (aC_MonochordError : PySem.W.nsIn K mainGlobals "MonochordError" = some (some (.ref C_MonochordError)))
    (xl_MonochordError : K.lookup C_MonochordError = some (excClassObj xn_MonochordError xq_MonochordError C_MonochordError xN_MonochordError xb_MonochordError [.type "ValueError", .type "Exception", .type "BaseException", .type "object"] true xs_MonochordError xu_MonochordError xa_MonochordError xc_MonochordError xd_MonochordError xj0_MonochordError xj1_MonochordError (some (.str "MonochordError" xt_MonochordError)) xj3_MonochordError xj5_MonochordError "ValueError.__new__")) (xsa_MonochordError : PySem.W.findIn K (.ref C_MonochordError) "__setattr__" = some (some (.builtin "object.__setattr__"))) (xty_MonochordError : PySem.W.typeIn K (.ref C_MonochordError) = some (.type "type")) (xkc_MonochordError : PySem.W.keepIn K (.ref C_MonochordError) = true) (xic_MonochordError : PySem.W.findIn K (.ref C_MonochordError) "__init__" = some (some (.ref f1))) (xnp_MonochordError : PySem.W.findIn K (.ref C_MonochordError) "place" = some none) (xnn_MonochordError : PySem.W.findIn K (.ref C_MonochordError) "name" = some none) (xhg_MonochordError : PySem.W.findIn K (.ref C_MonochordError) "__getattribute__" = some (some (.builtin "BaseException.__getattribute__"))) (xhk_MonochordError : PySem.W.findIn K (.ref C_MonochordError) "__getattr__" = some none) (xhs_MonochordError : PySem.W.subIn K (.ref C_MonochordError) (.type "BaseException") = some true) (xhd_MonochordError : PySem.W.hasDictIn K C_MonochordError = true) (xha_MonochordError : PySem.W.findIn K (.ref C_MonochordError) "__class__" = some (some (.builtin "object.__class__"))) (xhn_MonochordError : PySem.W.specialIn K (.builtin "object.__class__") "__get__" = some (some (.builtin "getset_descriptor.__get__"))) (xht_MonochordError : PySem.W.takesIn K (.builtin "object.__class__") = some true) (xhm_MonochordError : PySem.W.mroIn K C_MonochordError (.type "object") = some true) (xrd_MonochordError : PySem.W.readsIn K C_MonochordError (.type "type") = true) (xfc_MonochordError : PySem.W.findCls K (.ref C_MonochordError) (.type "type") "__name__" = some (.get (.builtin "getset_descriptor.__get__") (.builtin "type.__name__") (.ref C_MonochordError) (.type "type")))
    (aC_InvalidForm : PySem.W.nsIn K mainGlobals "InvalidForm" = some (some (.ref C_InvalidForm)))
    (xl_InvalidForm : K.lookup C_InvalidForm = some (excClassObj xn_InvalidForm xq_InvalidForm C_InvalidForm xN_InvalidForm xb_InvalidForm [.ref C_MonochordError, .type "ValueError", .type "Exception", .type "BaseException", .type "object"] true xs_InvalidForm xu_InvalidForm xa_InvalidForm xc_InvalidForm xd_InvalidForm xj0_InvalidForm xj1_InvalidForm (some (.str "InvalidForm" xt_InvalidForm)) xj3_InvalidForm xj5_InvalidForm "ValueError.__new__")) (xsa_InvalidForm : PySem.W.findIn K (.ref C_InvalidForm) "__setattr__" = some (some (.builtin "object.__setattr__"))) (xty_InvalidForm : PySem.W.typeIn K (.ref C_InvalidForm) = some (.type "type")) (xkc_InvalidForm : PySem.W.keepIn K (.ref C_InvalidForm) = true) (xic_InvalidForm : PySem.W.findIn K (.ref C_InvalidForm) "__init__" = some (some (.ref f1))) (xnp_InvalidForm : PySem.W.findIn K (.ref C_InvalidForm) "place" = some none) (xnn_InvalidForm : PySem.W.findIn K (.ref C_InvalidForm) "name" = some none) (xhg_InvalidForm : PySem.W.findIn K (.ref C_InvalidForm) "__getattribute__" = some (some (.builtin "BaseException.__getattribute__"))) (xhk_InvalidForm : PySem.W.findIn K (.ref C_InvalidForm) "__getattr__" = some none) (xhs_InvalidForm : PySem.W.subIn K (.ref C_InvalidForm) (.type "BaseException") = some true) (xhd_InvalidForm : PySem.W.hasDictIn K C_InvalidForm = true) (xha_InvalidForm : PySem.W.findIn K (.ref C_InvalidForm) "__class__" = some (some (.builtin "object.__class__"))) (xhn_InvalidForm : PySem.W.specialIn K (.builtin "object.__class__") "__get__" = some (some (.builtin "getset_descriptor.__get__"))) (xht_InvalidForm : PySem.W.takesIn K (.builtin "object.__class__") = some true) (xhm_InvalidForm : PySem.W.mroIn K C_InvalidForm (.type "object") = some true) (xrd_InvalidForm : PySem.W.readsIn K C_InvalidForm (.type "type") = true) (xfc_InvalidForm : PySem.W.findCls K (.ref C_InvalidForm) (.type "type") "__name__" = some (.get (.builtin "getset_descriptor.__get__") (.builtin "type.__name__") (.ref C_InvalidForm) (.type "type")))
    (aC_InvalidText : PySem.W.nsIn K mainGlobals "InvalidText" = some (some (.ref C_InvalidText)))
    (xl_InvalidText : K.lookup C_InvalidText = some (excClassObj xn_InvalidText xq_InvalidText C_InvalidText xN_InvalidText xb_InvalidText [.ref C_MonochordError, .type "ValueError", .type "Exception", .type "BaseException", .type "object"] true xs_InvalidText xu_InvalidText xa_InvalidText xc_InvalidText xd_InvalidText xj0_InvalidText xj1_InvalidText (some (.str "InvalidText" xt_InvalidText)) xj3_InvalidText xj5_InvalidText "ValueError.__new__")) (xsa_InvalidText : PySem.W.findIn K (.ref C_InvalidText) "__setattr__" = some (some (.builtin "object.__setattr__"))) (xty_InvalidText : PySem.W.typeIn K (.ref C_InvalidText) = some (.type "type")) (xkc_InvalidText : PySem.W.keepIn K (.ref C_InvalidText) = true) (xic_InvalidText : PySem.W.findIn K (.ref C_InvalidText) "__init__" = some (some (.ref f1))) (xnp_InvalidText : PySem.W.findIn K (.ref C_InvalidText) "place" = some none) (xnn_InvalidText : PySem.W.findIn K (.ref C_InvalidText) "name" = some none) (xhg_InvalidText : PySem.W.findIn K (.ref C_InvalidText) "__getattribute__" = some (some (.builtin "BaseException.__getattribute__"))) (xhk_InvalidText : PySem.W.findIn K (.ref C_InvalidText) "__getattr__" = some none) (xhs_InvalidText : PySem.W.subIn K (.ref C_InvalidText) (.type "BaseException") = some true) (xhd_InvalidText : PySem.W.hasDictIn K C_InvalidText = true) (xha_InvalidText : PySem.W.findIn K (.ref C_InvalidText) "__class__" = some (some (.builtin "object.__class__"))) (xhn_InvalidText : PySem.W.specialIn K (.builtin "object.__class__") "__get__" = some (some (.builtin "getset_descriptor.__get__"))) (xht_InvalidText : PySem.W.takesIn K (.builtin "object.__class__") = some true) (xhm_InvalidText : PySem.W.mroIn K C_InvalidText (.type "object") = some true) (xrd_InvalidText : PySem.W.readsIn K C_InvalidText (.type "type") = true) (xfc_InvalidText : PySem.W.findCls K (.ref C_InvalidText) (.type "type") "__name__" = some (.get (.builtin "getset_descriptor.__get__") (.builtin "type.__name__") (.ref C_InvalidText) (.type "type")))
    (xti : PySem.W.typeIn K (.ref f1) = some (.type "function"))
    (xsv_MonochordError : PySem.W.subIn K (.ref C_MonochordError) (.type "ValueError") = some true)
    (xsu_MonochordError_MonochordError : PySem.W.subIn K (.ref C_MonochordError) (.ref C_MonochordError) = some true)
    (xsu_MonochordError_InvalidForm : PySem.W.subIn K (.ref C_MonochordError) (.ref C_InvalidForm) = some false)
    (xsu_MonochordError_InvalidText : PySem.W.subIn K (.ref C_MonochordError) (.ref C_InvalidText) = some false)
    (xsv_InvalidForm : PySem.W.subIn K (.ref C_InvalidForm) (.type "ValueError") = some true)
    (xsu_InvalidForm_MonochordError : PySem.W.subIn K (.ref C_InvalidForm) (.ref C_MonochordError) = some true)
    (xsu_InvalidForm_InvalidForm : PySem.W.subIn K (.ref C_InvalidForm) (.ref C_InvalidForm) = some true)
    (xsu_InvalidForm_InvalidText : PySem.W.subIn K (.ref C_InvalidForm) (.ref C_InvalidText) = some false)
    (xsv_InvalidText : PySem.W.subIn K (.ref C_InvalidText) (.type "ValueError") = some true)
    (xsu_InvalidText_MonochordError : PySem.W.subIn K (.ref C_InvalidText) (.ref C_MonochordError) = some true)
    (xsu_InvalidText_InvalidForm : PySem.W.subIn K (.ref C_InvalidText) (.ref C_InvalidForm) = some false)
    (xsu_InvalidText_InvalidText : PySem.W.subIn K (.ref C_InvalidText) (.ref C_InvalidText) = some true)
    (z_range : PySem.W.nsIn K mainGlobals "range" = some none)
    (z_reversed : PySem.W.nsIn K mainGlobals "reversed" = some none)
    (z_list : PySem.W.nsIn K mainGlobals "list" = some none)
    (z_len : PySem.W.nsIn K mainGlobals "len" = some none)
    (z_isinstance : PySem.W.nsIn K mainGlobals "isinstance" = some none)
    (z_int : PySem.W.nsIn K mainGlobals "int" = some none)
    (z_bool : PySem.W.nsIn K mainGlobals "bool" = some none)
    (z_all : PySem.W.nsIn K mainGlobals "all" = some none)
    (z_min : PySem.W.nsIn K mainGlobals "min" = some none)
    (z_ValueError : PySem.W.nsIn K mainGlobals "ValueError" = some none)
    (q_EQUALS : PySem.W.nsIn K mainGlobals "_EQUALS" = some (some u_EQUALS)) (r_EQUALS : RelV (.int (61)) u_EQUALS)
    : ∃ fd : FuncData, (∀ (s : Shared) (v : Value), BindsTo s fd ⟨[v], []⟩ [("script", v)]) ∧ ∀ base : Heap, K.In base → base.Ns mainGlobals mg → FnOk l.prog w K mg base CX0 8 fa fd ["script"] (sp_law K) := by
  have e := hfa.symm.trans (PySem.W.mg_of X G a33)
  cases e
  have F1 := fun_mk (st := s_MonochordError_init) l1 c1 k1
  have b1 := F1.binds (ps := ["self", "place"]) fun _ _ _ _ _ _ us hl => (by obtain ⟨_, _, rfl⟩ := ml2 hl; exact rfl)
  have F2 := fun_mk (st := s_write_utf8) l2 c2 k2
  have b2 := F2.binds (ps := ["text"]) fun _ _ _ _ _ _ us hl => (by obtain ⟨_, rfl⟩ := ml1 hl; exact rfl)
  have F3 := fun_mk (st := s_read_utf8) l3 c3 k3
  have b3 := F3.binds (ps := ["data", "start", "stop"]) fun _ _ _ _ _ _ us hl => (by obtain ⟨_, _, _, rfl⟩ := ml3 hl; exact rfl)
  have F4 := fun_mk (st := s_point_count) l4 c4 k4
  have b4 := F4.binds (ps := ["point"]) fun _ _ _ _ _ _ us hl => (by obtain ⟨_, rfl⟩ := ml1 hl; exact rfl)
  have F5 := fun_mk (st := s_least_first) l5 c5 k5
  have b5 := F5.binds (ps := ["count"]) fun _ _ _ _ _ _ us hl => (by obtain ⟨_, rfl⟩ := ml1 hl; exact rfl)
  have F6 := fun_mk (st := s_point_bytes) l6 c6 k6
  have b6 := F6.binds (ps := ["point"]) fun _ _ _ _ _ _ us hl => (by obtain ⟨_, rfl⟩ := ml1 hl; exact rfl)
  have F7 := fun_mk (st := s_count_told) l7 c7 k7
  have b7 := F7.binds (ps := ["first"]) fun _ _ _ _ _ _ us hl => (by obtain ⟨_, rfl⟩ := ml1 hl; exact rfl)
  have F8 := fun_mk (st := s_read_point) l8 c8 k8
  have b8 := F8.binds (ps := ["data", "place", "count"]) fun _ _ _ _ _ _ us hl => (by obtain ⟨_, _, _, rfl⟩ := ml3 hl; exact rfl)
  have F9 := fun_mk (st := s_little_bytes) l9 c9 k9
  have b9 := F9.binds (ps := ["number", "count"]) fun _ _ _ _ _ _ us hl => (by obtain ⟨_, _, rfl⟩ := ml2 hl; exact rfl)
  have F10 := fun_mk (st := s_little_number) l10 c10 k10
  have b10 := F10.binds (ps := ["data", "place", "count"]) fun _ _ _ _ _ _ us hl => (by obtain ⟨_, _, _, rfl⟩ := ml3 hl; exact rfl)
  have F11 := fun_mk (st := s_check_inside) l11 c11 k11
  have b11 := F11.binds (ps := ["place", "count", "stop"]) fun _ _ _ _ _ _ us hl => (by obtain ⟨_, _, _, rfl⟩ := ml3 hl; exact rfl)
  have F12 := fun_mk (st := s_Comments_init) l12 c12 k12
  have b12 := F12.binds (ps := ["self", "vendor", "entries"]) fun _ _ _ _ _ _ us hl => (by obtain ⟨_, _, _, rfl⟩ := ml3 hl; exact rfl)
  have F13 := fun_mk (st := s_read_comments) l13 c13 k13
  have b13 := F13.binds (ps := ["data", "start", "stop"]) fun _ _ _ _ _ _ us hl => (by obtain ⟨_, _, _, rfl⟩ := ml3 hl; exact rfl)
  have F14 := fun_mk (st := s_write_comments) l14 c14 k14
  have b14 := F14.binds (ps := ["comments"]) fun _ _ _ _ _ _ us hl => (by obtain ⟨_, rfl⟩ := ml1 hl; exact rfl)
  have F15 := fun_mk (st := s_read_length) l15 c15 k15
  have b15 := F15.binds (ps := ["data", "place", "stop"]) fun _ _ _ _ _ _ us hl => (by obtain ⟨_, _, _, rfl⟩ := ml3 hl; exact rfl)
  have F16 := fun_mk (st := s_read_entry) l16 c16 k16
  have b16 := F16.binds (ps := ["data", "place", "stop"]) fun _ _ _ _ _ _ us hl => (by obtain ⟨_, _, _, rfl⟩ := ml3 hl; exact rfl)
  have F17 := fun_mk (st := s_law_is_integer) l17 c17 k17
  have b17 := F17.binds (ps := ["actual"]) fun _ _ _ _ _ _ us hl => (by obtain ⟨_, rfl⟩ := ml1 hl; exact rfl)
  have F18 := fun_mk (st := s_law_refill) l18 c18 k18
  have b18 := F18.binds (ps := ["script", "k"]) fun _ _ _ _ _ _ us hl => (by obtain ⟨_, _, rfl⟩ := ml2 hl; exact rfl)
  have F19 := fun_mk (st := s_law_draw) l19 c19 k19
  have b19 := F19.binds (ps := ["state", "script", "size"]) fun _ _ _ _ _ _ us hl => (by obtain ⟨_, _, _, rfl⟩ := ml3 hl; exact rfl)
  have F20 := fun_mk (st := s_law_junk) l20 c20 k20
  have b20 := F20.binds (ps := ["state", "script", "count"]) fun _ _ _ _ _ _ us hl => (by obtain ⟨_, _, _, rfl⟩ := ml3 hl; exact rfl)
  have F21 := fun_mk (st := s_law_text) l21 c21 k21
  have b21 := F21.binds (ps := ["state", "script", "most"]) fun _ _ _ _ _ _ us hl => (by obtain ⟨_, _, _, rfl⟩ := ml3 hl; exact rfl)
  have F22 := fun_mk (st := s_law_name) l22 c22 k22
  have b22 := F22.binds (ps := ["state", "script"]) fun _ _ _ _ _ _ us hl => (by obtain ⟨_, _, rfl⟩ := ml2 hl; exact rfl)
  have F23 := fun_mk (st := s_law_entries) l23 c23 k23
  have b23 := F23.binds (ps := ["state", "script", "most"]) fun _ _ _ _ _ _ us hl => (by obtain ⟨_, _, _, rfl⟩ := ml3 hl; exact rfl)
  have F24 := fun_mk (st := s_law_utf8) l24 c24 k24
  have b24 := F24.binds (ps := ["text"]) fun _ _ _ _ _ _ us hl => (by obtain ⟨_, rfl⟩ := ml1 hl; exact rfl)
  have F25 := fun_mk (st := s_law_little) l25 c25 k25
  have b25 := F25.binds (ps := ["number"]) fun _ _ _ _ _ _ us hl => (by obtain ⟨_, rfl⟩ := ml1 hl; exact rfl)
  have F26 := fun_mk (st := s_law_comment_bytes) l26 c26 k26
  have b26 := F26.binds (ps := ["vendor", "entries"]) fun _ _ _ _ _ _ us hl => (by obtain ⟨_, _, rfl⟩ := ml2 hl; exact rfl)
  have F27 := fun_mk (st := s_law_length) l27 c27 k27
  have b27 := F27.binds (ps := ["first"]) fun _ _ _ _ _ _ us hl => (by obtain ⟨_, rfl⟩ := ml1 hl; exact rfl)
  have F28 := fun_mk (st := s_law_text_fault) l28 c28 k28
  have b28 := F28.binds (ps := ["data", "start", "stop"]) fun _ _ _ _ _ _ us hl => (by obtain ⟨_, _, _, rfl⟩ := ml3 hl; exact rfl)
  have F29 := fun_mk (st := s_law_number) l29 c29 k29
  have b29 := F29.binds (ps := ["data", "at"]) fun _ _ _ _ _ _ us hl => (by obtain ⟨_, _, rfl⟩ := ml2 hl; exact rfl)
  have F30 := fun_mk (st := s_law_entry_fault) l30 c30 k30
  have b30 := F30.binds (ps := ["data", "at", "end"]) fun _ _ _ _ _ _ us hl => (by obtain ⟨_, _, _, rfl⟩ := ml3 hl; exact rfl)
  have F31 := fun_mk (st := s_law_expected) l31 c31 k31
  have b31 := F31.binds (ps := ["data", "start", "stop"]) fun _ _ _ _ _ _ us hl => (by obtain ⟨_, _, _, rfl⟩ := ml3 hl; exact rfl)
  have F32 := fun_mk (st := s_law_outcome) l32 c32 k32
  have b32 := F32.binds (ps := ["data", "start", "stop"]) fun _ _ _ _ _ _ us hl => (by obtain ⟨_, _, _, rfl⟩ := ml3 hl; exact rfl)
  have F33 := fun_mk (st := s_law) l33 c33 k33
  have b33 := F33.binds (ps := ["script"]) fun _ _ _ _ _ _ us hl => (by obtain ⟨_, rfl⟩ := ml1 hl; exact rfl)
  let T : TX K mg := ⟨f1, _, F1, b1, f2, _, F2, b2, (PySem.W.mg_of X G a2), f3, _, F3, b3, (PySem.W.mg_of X G a3), f4, _, F4, b4, (PySem.W.mg_of X G a4), f5, _, F5, b5, (PySem.W.mg_of X G a5), f6, _, F6, b6, (PySem.W.mg_of X G a6), f7, _, F7, b7, (PySem.W.mg_of X G a7), f8, _, F8, b8, (PySem.W.mg_of X G a8), f9, _, F9, b9, (PySem.W.mg_of X G a9), f10, _, F10, b10, (PySem.W.mg_of X G a10), f11, _, F11, b11, (PySem.W.mg_of X G a11), f12, _, F12, b12, f13, _, F13, b13, (PySem.W.mg_of X G a13), f14, _, F14, b14, (PySem.W.mg_of X G a14), f15, _, F15, b15, (PySem.W.mg_of X G a15), f16, _, F16, b16, (PySem.W.mg_of X G a16), f17, _, F17, b17, (PySem.W.mg_of X G a17), f18, _, F18, b18, (PySem.W.mg_of X G a18), f19, _, F19, b19, (PySem.W.mg_of X G a19), f20, _, F20, b20, (PySem.W.mg_of X G a20), f21, _, F21, b21, (PySem.W.mg_of X G a21), f22, _, F22, b22, (PySem.W.mg_of X G a22), f23, _, F23, b23, (PySem.W.mg_of X G a23), f24, _, F24, b24, (PySem.W.mg_of X G a24), f25, _, F25, b25, (PySem.W.mg_of X G a25), f26, _, F26, b26, (PySem.W.mg_of X G a26), f27, _, F27, b27, (PySem.W.mg_of X G a27), f28, _, F28, b28, (PySem.W.mg_of X G a28), f29, _, F29, b29, (PySem.W.mg_of X G a29), f30, _, F30, b30, (PySem.W.mg_of X G a30), f31, _, F31, b31, (PySem.W.mg_of X G a31), f32, _, F32, b32, (PySem.W.mg_of X G a32), fa, _, F33, b33, (PySem.W.mg_of X G a33), C_Comments, ⟨pg_Comments, hd_Comments, po_Comments, sa_Comments⟩, (PySem.W.mg_of X G aC_Comments), ⟨mk_Comments, a12, i12, kc_Comments⟩, n_Comments_vendor, n_Comments_entries, C_MonochordError, (PySem.W.mg_of X G aC_MonochordError), ⟨⟨_, _, _, _, _, _, _, _, _, _, _, _, _, _, _, xl_MonochordError, rfl⟩, xsa_MonochordError, xty_MonochordError, xkc_MonochordError, xic_MonochordError, xnp_MonochordError, xnn_MonochordError, ⟨xhg_MonochordError, xhk_MonochordError, xhs_MonochordError, xhd_MonochordError, xha_MonochordError, xhn_MonochordError, xht_MonochordError, xhm_MonochordError⟩, xrd_MonochordError, xfc_MonochordError⟩, C_InvalidForm, (PySem.W.mg_of X G aC_InvalidForm), ⟨⟨_, _, _, _, _, _, _, _, _, _, _, _, _, _, _, xl_InvalidForm, rfl⟩, xsa_InvalidForm, xty_InvalidForm, xkc_InvalidForm, xic_InvalidForm, xnp_InvalidForm, xnn_InvalidForm, ⟨xhg_InvalidForm, xhk_InvalidForm, xhs_InvalidForm, xhd_InvalidForm, xha_InvalidForm, xhn_InvalidForm, xht_InvalidForm, xhm_InvalidForm⟩, xrd_InvalidForm, xfc_InvalidForm⟩, C_InvalidText, (PySem.W.mg_of X G aC_InvalidText), ⟨⟨_, _, _, _, _, _, _, _, _, _, _, _, _, _, _, xl_InvalidText, rfl⟩, xsa_InvalidText, xty_InvalidText, xkc_InvalidText, xic_InvalidText, xnp_InvalidText, xnn_InvalidText, ⟨xhg_InvalidText, xhk_InvalidText, xhs_InvalidText, xhd_InvalidText, xha_InvalidText, xhn_InvalidText, xht_InvalidText, xhm_InvalidText⟩, xrd_InvalidText, xfc_InvalidText⟩, xti, xsv_MonochordError, xsu_MonochordError_MonochordError, xsu_MonochordError_InvalidForm, xsu_MonochordError_InvalidText, xsv_InvalidForm, xsu_InvalidForm_MonochordError, xsu_InvalidForm_InvalidForm, xsu_InvalidForm_InvalidText, xsv_InvalidText, xsu_InvalidText_MonochordError, xsu_InvalidText_InvalidForm, xsu_InvalidText_InvalidText, (PySem.W.mg_none_of X G z_range), (PySem.W.mg_none_of X G z_reversed), (PySem.W.mg_none_of X G z_list), (PySem.W.mg_none_of X G z_len), (PySem.W.mg_none_of X G z_isinstance), (PySem.W.mg_none_of X G z_int), (PySem.W.mg_none_of X G z_bool), (PySem.W.mg_none_of X G z_all), (PySem.W.mg_none_of X G z_min), (PySem.W.mg_none_of X G z_ValueError), u_EQUALS, (PySem.W.mg_of X G q_EQUALS), r_EQUALS⟩
  exact ⟨_, fun s v => .of_eq rfl, fun base _ _ => ok_law T⟩
end K51
open PySem PySem.W PyProof.Rows
set_option maxRecDepth 100000 in
set_option maxHeartbeats 0 in
theorem PySem.Challenge.cw_monochord_k51_comment_faults_holds : PySem.Challenge.rw_monochord_k51_comment_faults.Holds := by
  w_on; o_law; k_head; (case hw => w_witness2)
  k_fill
  refine L2.walk_of (l := PySem.Challenge.rw_monochord_k51_comment_faults) (n := 63) (k := 8) (x := "script") (CX := fun _ => L2.CX0) (sp := fun w => K51.sp_law _) rfl (by decide) rfl ⟨rfl, by decide, by decide⟩ (fun w h Y => PySem.W.kIn_of Y) ?F (fun _ _ a ns hl _ hS => ⟨a, ns, rfl, hS, hl, fun _ => rfl⟩) (fun _ _ _ _ _ h => h)
  case F =>
    intro w mg fa h KX G hmg
    refine' K51.all_mk KX G hmg ?a1 ?i1 ?l1 ?c1 ?k1 ?a2 ?l2 ?c2 ?k2 ?a3 ?l3 ?c3 ?k3 ?a4 ?l4 ?c4 ?k4 ?a5 ?l5 ?c5 ?k5 ?a6 ?l6 ?c6 ?k6 ?a7 ?l7 ?c7 ?k7 ?a8 ?l8 ?c8 ?k8 ?a9 ?l9 ?c9 ?k9 ?a10 ?l10 ?c10 ?k10 ?a11 ?l11 ?c11 ?k11 ?a12 ?i12 ?l12 ?c12 ?k12 ?a13 ?l13 ?c13 ?k13 ?a14 ?l14 ?c14 ?k14 ?a15 ?l15 ?c15 ?k15 ?a16 ?l16 ?c16 ?k16 ?a17 ?l17 ?c17 ?k17 ?a18 ?l18 ?c18 ?k18 ?a19 ?l19 ?c19 ?k19 ?a20 ?l20 ?c20 ?k20 ?a21 ?l21 ?c21 ?k21 ?a22 ?l22 ?c22 ?k22 ?a23 ?l23 ?c23 ?k23 ?a24 ?l24 ?c24 ?k24 ?a25 ?l25 ?c25 ?k25 ?a26 ?l26 ?c26 ?k26 ?a27 ?l27 ?c27 ?k27 ?a28 ?l28 ?c28 ?k28 ?a29 ?l29 ?c29 ?k29 ?a30 ?l30 ?c30 ?k30 ?a31 ?l31 ?c31 ?k31 ?a32 ?l32 ?c32 ?k32 ?a33 ?l33 ?c33 ?k33 ?aC_Comments ?pg_Comments ?hd_Comments ?po_Comments ?sa_Comments ?mk_Comments ?kc_Comments ?n_Comments_vendor ?n_Comments_entries ?aC_MonochordError ?xl_MonochordError ?xsa_MonochordError ?xty_MonochordError ?xkc_MonochordError ?xic_MonochordError ?xnp_MonochordError ?xnn_MonochordError ?xhg_MonochordError ?xhk_MonochordError ?xhs_MonochordError ?xhd_MonochordError ?xha_MonochordError ?xhn_MonochordError ?xht_MonochordError ?xhm_MonochordError ?xrd_MonochordError ?xfc_MonochordError ?aC_InvalidForm ?xl_InvalidForm ?xsa_InvalidForm ?xty_InvalidForm ?xkc_InvalidForm ?xic_InvalidForm ?xnp_InvalidForm ?xnn_InvalidForm ?xhg_InvalidForm ?xhk_InvalidForm ?xhs_InvalidForm ?xhd_InvalidForm ?xha_InvalidForm ?xhn_InvalidForm ?xht_InvalidForm ?xhm_InvalidForm ?xrd_InvalidForm ?xfc_InvalidForm ?aC_InvalidText ?xl_InvalidText ?xsa_InvalidText ?xty_InvalidText ?xkc_InvalidText ?xic_InvalidText ?xnp_InvalidText ?xnn_InvalidText ?xhg_InvalidText ?xhk_InvalidText ?xhs_InvalidText ?xhd_InvalidText ?xha_InvalidText ?xhn_InvalidText ?xht_InvalidText ?xhm_InvalidText ?xrd_InvalidText ?xfc_InvalidText ?xti ?xsv_MonochordError ?xsu_MonochordError_MonochordError ?xsu_MonochordError_InvalidForm ?xsu_MonochordError_InvalidText ?xsv_InvalidForm ?xsu_InvalidForm_MonochordError ?xsu_InvalidForm_InvalidForm ?xsu_InvalidForm_InvalidText ?xsv_InvalidText ?xsu_InvalidText_MonochordError ?xsu_InvalidText_InvalidForm ?xsu_InvalidText_InvalidText ?z_range ?z_reversed ?z_list ?z_len ?z_isinstance ?z_int ?z_bool ?z_all ?z_min ?z_ValueError ?q_EQUALS ?r_EQUALS
    (case aC_Comments => k_is)
    (case aC_MonochordError => k_is)
    (case aC_InvalidForm => k_is)
    (case aC_InvalidText => k_is)
    (case a1 => k_is)
    (case i1 => k_is)
    (case l1 => k_is)
    (case c1 => k_is)
    (case k1 => k_is)
    (case a2 => k_is)
    (case l2 => k_is)
    (case c2 => k_is)
    (case k2 => k_is)
    (case a3 => k_is)
    (case l3 => k_is)
    (case c3 => k_is)
    (case k3 => k_is)
    (case a4 => k_is)
    (case l4 => k_is)
    (case c4 => k_is)
    (case k4 => k_is)
    (case a5 => k_is)
    (case l5 => k_is)
    (case c5 => k_is)
    (case k5 => k_is)
    (case a6 => k_is)
    (case l6 => k_is)
    (case c6 => k_is)
    (case k6 => k_is)
    (case a7 => k_is)
    (case l7 => k_is)
    (case c7 => k_is)
    (case k7 => k_is)
    (case a8 => k_is)
    (case l8 => k_is)
    (case c8 => k_is)
    (case k8 => k_is)
    (case a9 => k_is)
    (case l9 => k_is)
    (case c9 => k_is)
    (case k9 => k_is)
    (case a10 => k_is)
    (case l10 => k_is)
    (case c10 => k_is)
    (case k10 => k_is)
    (case a11 => k_is)
    (case l11 => k_is)
    (case c11 => k_is)
    (case k11 => k_is)
    (case a12 => k_is)
    (case i12 => k_is)
    (case l12 => k_is)
    (case c12 => k_is)
    (case k12 => k_is)
    (case a13 => k_is)
    (case l13 => k_is)
    (case c13 => k_is)
    (case k13 => k_is)
    (case a14 => k_is)
    (case l14 => k_is)
    (case c14 => k_is)
    (case k14 => k_is)
    (case a15 => k_is)
    (case l15 => k_is)
    (case c15 => k_is)
    (case k15 => k_is)
    (case a16 => k_is)
    (case l16 => k_is)
    (case c16 => k_is)
    (case k16 => k_is)
    (case a17 => k_is)
    (case l17 => k_is)
    (case c17 => k_is)
    (case k17 => k_is)
    (case a18 => k_is)
    (case l18 => k_is)
    (case c18 => k_is)
    (case k18 => k_is)
    (case a19 => k_is)
    (case l19 => k_is)
    (case c19 => k_is)
    (case k19 => k_is)
    (case a20 => k_is)
    (case l20 => k_is)
    (case c20 => k_is)
    (case k20 => k_is)
    (case a21 => k_is)
    (case l21 => k_is)
    (case c21 => k_is)
    (case k21 => k_is)
    (case a22 => k_is)
    (case l22 => k_is)
    (case c22 => k_is)
    (case k22 => k_is)
    (case a23 => k_is)
    (case l23 => k_is)
    (case c23 => k_is)
    (case k23 => k_is)
    (case a24 => k_is)
    (case l24 => k_is)
    (case c24 => k_is)
    (case k24 => k_is)
    (case a25 => k_is)
    (case l25 => k_is)
    (case c25 => k_is)
    (case k25 => k_is)
    (case a26 => k_is)
    (case l26 => k_is)
    (case c26 => k_is)
    (case k26 => k_is)
    (case a27 => k_is)
    (case l27 => k_is)
    (case c27 => k_is)
    (case k27 => k_is)
    (case a28 => k_is)
    (case l28 => k_is)
    (case c28 => k_is)
    (case k28 => k_is)
    (case a29 => k_is)
    (case l29 => k_is)
    (case c29 => k_is)
    (case k29 => k_is)
    (case a30 => k_is)
    (case l30 => k_is)
    (case c30 => k_is)
    (case k30 => k_is)
    (case a31 => k_is)
    (case l31 => k_is)
    (case c31 => k_is)
    (case k31 => k_is)
    (case a32 => k_is)
    (case l32 => k_is)
    (case c32 => k_is)
    (case k32 => k_is)
    (case a33 => k_is)
    (case l33 => k_is)
    (case c33 => k_is)
    (case k33 => k_is)
    (case pg_Comments => k_is)
    (case hd_Comments => k_is)
    (case po_Comments => k_is)
    (case sa_Comments => k_is)
    (case mk_Comments => k_is)
    (case kc_Comments => k_is)
    (case n_Comments_vendor => k_is)
    (case n_Comments_entries => k_is)
    (case xl_MonochordError => k_is)
    (case xsa_MonochordError => k_is)
    (case xty_MonochordError => k_is)
    (case xkc_MonochordError => k_is)
    (case xic_MonochordError => k_is)
    (case xnp_MonochordError => k_is)
    (case xnn_MonochordError => k_is)
    (case xhg_MonochordError => k_is)
    (case xhk_MonochordError => k_is)
    (case xhs_MonochordError => k_is)
    (case xhd_MonochordError => k_is)
    (case xha_MonochordError => k_is)
    (case xhn_MonochordError => k_is)
    (case xht_MonochordError => k_is)
    (case xhm_MonochordError => k_is)
    (case xrd_MonochordError => k_is)
    (case xfc_MonochordError => k_is)
    (case xl_InvalidForm => k_is)
    (case xsa_InvalidForm => k_is)
    (case xty_InvalidForm => k_is)
    (case xkc_InvalidForm => k_is)
    (case xic_InvalidForm => k_is)
    (case xnp_InvalidForm => k_is)
    (case xnn_InvalidForm => k_is)
    (case xhg_InvalidForm => k_is)
    (case xhk_InvalidForm => k_is)
    (case xhs_InvalidForm => k_is)
    (case xhd_InvalidForm => k_is)
    (case xha_InvalidForm => k_is)
    (case xhn_InvalidForm => k_is)
    (case xht_InvalidForm => k_is)
    (case xhm_InvalidForm => k_is)
    (case xrd_InvalidForm => k_is)
    (case xfc_InvalidForm => k_is)
    (case xl_InvalidText => k_is)
    (case xsa_InvalidText => k_is)
    (case xty_InvalidText => k_is)
    (case xkc_InvalidText => k_is)
    (case xic_InvalidText => k_is)
    (case xnp_InvalidText => k_is)
    (case xnn_InvalidText => k_is)
    (case xhg_InvalidText => k_is)
    (case xhk_InvalidText => k_is)
    (case xhs_InvalidText => k_is)
    (case xhd_InvalidText => k_is)
    (case xha_InvalidText => k_is)
    (case xhn_InvalidText => k_is)
    (case xht_InvalidText => k_is)
    (case xhm_InvalidText => k_is)
    (case xrd_InvalidText => k_is)
    (case xfc_InvalidText => k_is)
    (case xti => k_is)
    (case xsv_MonochordError => k_is)
    (case xsu_MonochordError_MonochordError => k_is)
    (case xsu_MonochordError_InvalidForm => k_is)
    (case xsu_MonochordError_InvalidText => k_is)
    (case xsv_InvalidForm => k_is)
    (case xsu_InvalidForm_MonochordError => k_is)
    (case xsu_InvalidForm_InvalidForm => k_is)
    (case xsu_InvalidForm_InvalidText => k_is)
    (case xsv_InvalidText => k_is)
    (case xsu_InvalidText_MonochordError => k_is)
    (case xsu_InvalidText_InvalidForm => k_is)
    (case xsu_InvalidText_InvalidText => k_is)
    (case z_range => k_is)
    (case z_reversed => k_is)
    (case z_list => k_is)
    (case z_len => k_is)
    (case z_isinstance => k_is)
    (case z_int => k_is)
    (case z_bool => k_is)
    (case z_all => k_is)
    (case z_min => k_is)
    (case z_ValueError => k_is)
    (case q_EQUALS => k_is)
    (case r_EQUALS => first | rfl | exact ⟨_, rfl⟩)
