import PyProof.Rows.All
import Wide.All
import OpenK.AllK
import Wide.FinOn
import PyProof.EqAt
import PyProof.EqKinds
import PyProof.TupleCall
import HandS.Base
import HandS.Call
import HandS.List
import HandS.Words
import HandS.OwnEq
import HandS.Defaults
import HandS.ClsMeth
import KE.KOpsOwn
import KE.KCallOwn
import PyProof.InstNe
import HandS.Comp
import HandS.Ends
import HandS.EndBits
import HandS.MakeKwOnly
import HandS.Property
import HandS.IsInst
import HandS.Gcd
import HandS.Wide
import HandS.WideBits
import HandS.Style
import HandS.FStr
import HandS.Evl
import PyProof.ReprNest
import PyProof.NeKinds
import OpenK.KMeth
import HandS.Iter
import HandS.Zip
import KE.GoesMore
import KE.GoesEnum
import HandS.Flow
import HandS.MakeKw
import PyProof.ReprLen
import HandS.WideMore
import HandS.WordsList
import PySem.Challenge.RW_heardquotes_k13_whole_programs_made
set_option Elab.async false
set_option linter.all false
set_option maxRecDepth 100000
set_option maxHeartbeats 4000000
/-! Operators of an own class, over the layer. -/
namespace GX
open PySem PySem.Spec PyProof.Rows L2
section
variable {X : Cx} {k : Nat} {f C : Addr} {fd : FuncData} {ps : List Str} {sp : Sp} {E : XK}
  {pins : List (Addr × Obj)} {σ : L2.St} {H : Hp} {s : Shared} {Q : VK} {us : List Value} {vs : List V}

theorem va {a : Addr} (h : Vals vs us) : Vals (.ref a :: vs) (.ref a :: us) := .cons rfl h
theorem vi {i : Int} {t : Tok} (h : Vals vs us) : Vals (.int i :: vs) (.int i t :: us) := .cons ⟨t, rfl⟩ h
/-- what a def that lets nothing out gives back, wherever below the body it is called -/
theorem run_at {A : Around} (sb : Sub X k A) (F : FnOk X.prog X.w X.K X.mg X.base CX0 k f fd ps sp)
    (hb : Binds X.K fd ps []) (I : Inv X pins σ H s) (r : Vals vs us) (h : sp vs H Q E)
    {Ex : Value → Shared → Prop} :
    wpAny (model X.prog X.w) A (call (.ref f) us) (EP X pins σ Q) Ex s := by
  have e := I.env0
  have e0 : Env0 X.prog X.w X.K X.mg X.base A X.stack s H :=
    ⟨by rw [sb.fr]; exact e.frames, e.mod, e.bs, e.bsz, e.funs, e.frf, e.hok, e.bare⟩
  have hl := F.len _ _ _ _ h
  have hl2 : us.length = ps.length := by rw [← r.length]; exact hl
  have hbb := hb s us I.kIn (by simpa using hl2)
  apply wpAny_call
  apply codeAny_mono (F.run A X.stack s H ⟨us, []⟩ us vs Q E sb.room e0 (by simpa using hbb) r h)
  intro c s' hq
  match c, hq with
  | .error e, hq => exact hq.elim
  | .ok (.ret u), hq => exact I.after hq
  | .ok .next, hq => exact hq.elim
  | .ok .brk, hq => exact hq.elim
  | .ok .cont, hq => exact hq.elim

theorem back_of {u : Value} {s' : Shared} (h : EP X pins σ Q u s') : PySem.W.CmpBack (EP X pins σ Q) u s' := by
  obtain ⟨v, H', I, r, q⟩ := h
  cases v with
  | non => cases (show u = Value.none from r); exact ⟨.non, H', I, rfl, q⟩
  | bl b => cases (show u = Value.bool b from r); exact ⟨.bl b, H', I, rfl, q⟩
  | int i => obtain ⟨t, e⟩ := (show ∃ t, u = Value.int i t from r); subst e; exact ⟨.int i, H', I, ⟨_, rfl⟩, q⟩
  | str i => obtain ⟨t, e⟩ := (show ∃ t, u = Value.str i t from r); subst e; exact ⟨.str i, H', I, ⟨_, rfl⟩, q⟩
  | byt i => obtain ⟨t, e⟩ := (show ∃ t, u = Value.bytes i t from r); subst e; exact ⟨.byt i, H', I, ⟨_, rfl⟩, q⟩
  | flt i => obtain ⟨t, e⟩ := (show ∃ t, u = Value.float i t from r); subst e; exact ⟨.flt i, H', I, ⟨_, rfl⟩, q⟩
  | ref a => cases (show u = Value.ref a from r); exact ⟨.ref a, H', I, rfl, q⟩
  | ty a => cases (show u = Value.type a from r); exact ⟨.ty a, H', I, rfl, q⟩

/-- a op b, both of the class at C: its own method -/
def rOwn2 (C : Addr) (sp : Sp) (E : XK) : R2 := fun x y H Q => ∃ a b dx dy fs gs, x = .ref a ∧ y = .ref b ∧
  H a = some (.ins C dx fs) ∧ H b = some (.ins C dy gs) ∧ sp [.ref a, .ref b] H Q E
theorem op_own2 {op : Operator} (F : FnOk X.prog X.w X.K X.mg X.base CX0 k f fd ps sp) (hr : Room k X.A)
    (hb : Binds X.K fd ps []) (hc : PySem.W.selfFirst X.K C = true)
    (hs : PySem.W.findIn X.K (.ref C) (PySem.dunder op.info.2) = some (some (.ref f)))
    (hf : PySem.W.isFn X.K (.ref f) = true) : OpR X (binaryOp op) (rOwn2 C sp E) := by
  intro pins s σ H x y u v Q I rx ry h
  obtain ⟨a, b, dx, dy, fs, gs, rfl, rfl, ha, hb', hq⟩ := h
  cases (show u = Value.ref a from rx)
  cases (show v = Value.ref b from ry)
  obtain ⟨mA, OA, _⟩ := ins_get I.hok ha
  obtain ⟨mB, OB, _⟩ := ins_get I.hok hb'
  obtain ⟨oa, JA, _⟩ := OA.look
  obtain ⟨ob, JB, _⟩ := OB.look
  obtain ⟨m, hF⟩ := I.fr
  apply PySem.W.binop_K hF I.ok.mod.kin JA JB.type hc hs hf
  exact wpAny_mono (run_at ⟨hr, rfl⟩ F hb I (va (va .nil)) hq) (fun _ _ z => back_of z) fun _ _ z => z

/-- a op n, n an int -/
def rOwnN (C : Addr) (sp : Sp) (E : XK) : R2 := fun x y H Q => ∃ a i dx fs, x = .ref a ∧ y = .int i ∧
  H a = some (.ins C dx fs) ∧ sp [.ref a, .int i] H Q E
theorem op_ownN {op : Operator} {fo ro rc : Option Value} (F : FnOk X.prog X.w X.K X.mg X.base CX0 k f fd ps sp)
    (hr : Room k X.A) (hb : Binds X.K fd ps []) (hc : PySem.W.selfFirst X.K C = true)
    (hs : PySem.W.findIn X.K (.ref C) (PySem.dunder op.info.2) = some (some (.ref f)))
    (hf : PySem.W.isFn X.K (.ref f) = true)
    (hr2 : PySem.W.findIn X.K (.ref C) (dunderR op.info.2) = some rc) (hp : rc = none ∨ ∃ g : Addr, rc = some (.ref g))
    (h1 : PySem.W.findIn X.K (.type "int") (PySem.dunder op.info.2) = some fo)
    (h2 : PySem.W.findIn X.K (.type "int") (dunderR op.info.2) = some ro)
    (hsub : PySem.W.subIn X.K (.type "int") (.ref C) = some false) : OpR X (binaryOp op) (rOwnN C sp E) := by
  intro pins s σ H x y u v Q I rx ry h
  obtain ⟨a, i, dx, fs, rfl, rfl, ha, hq⟩ := h
  cases (show u = Value.ref a from rx)
  obtain ⟨t, rfl⟩ := (show ∃ t, v = Value.int i t from ry)
  obtain ⟨mA, OA, _⟩ := ins_get I.hok ha
  obtain ⟨oa, JA, _⟩ := OA.look
  obtain ⟨m, hF⟩ := I.fr
  apply PySem.W.ksp_binT hF I.ok.mod.kin JA (T := "int") rfl hc hs hf hr2 hp h1 h2 hsub
  exact wpAny_mono (run_at ⟨hr, rfl⟩ F hb I (va (vi .nil)) hq) (fun _ _ z => back_of z) fun _ _ z => z

/-- -a -/
def rNeg (C : Addr) (sp : Sp) (E : XK) : V → Hp → VK → Prop := fun x H Q => ∃ a dx fs, x = .ref a ∧
  H a = some (.ins C dx fs) ∧ sp [.ref a] H Q E
theorem un_own (F : FnOk X.prog X.w X.K X.mg X.base CX0 k f fd ps sp) (hr : Room k X.A) (hb : Binds X.K fd ps [])
    (hs : PySem.W.findIn X.K (.ref C) "__neg__" = some (some (.ref f))) (hf : PySem.W.isFn X.K (.ref f) = true) :
    UnR X (unaryOp .USub) (rNeg C sp E) := by
  intro pins s σ H x u Q I rx h
  obtain ⟨a, dx, fs, rfl, ha, hq⟩ := h
  cases (show u = Value.ref a from rx)
  obtain ⟨mA, OA, _⟩ := ins_get I.hok ha
  obtain ⟨oa, JA, _⟩ := OA.look
  obtain ⟨m, hF⟩ := I.fr
  apply PySem.W.ksp_neg hF I.ok.mod.kin JA hs hf
  exact run_at ⟨hr, rfl⟩ F hb I (va .nil) hq

/-- a text comes back -/
def RetS (sp : Sp) (E : XK) (a : Addr) (H : Hp) (Q : VK) : Prop := sp [.ref a] H (fun v H' => ∃ z, v = .str z ∧ Q v H') E
theorem strback_of {u : Value} {s' : Shared} (h : EP X pins σ (fun v H' => ∃ z, v = .str z ∧ Q v H') u s') :
    PySem.W.StrBack (EP X pins σ Q) u s' := by
  obtain ⟨v, H', I, r, z, rfl, q⟩ := h
  obtain ⟨t, e⟩ := (show ∃ t, u = Value.str z t from r)
  subst e
  exact ⟨.str z, H', I, ⟨_, rfl⟩, q⟩
def rStrOwn (C : Addr) (sp : Sp) (E : XK) : List V → Hp → VK → Prop := fun xs H Q => ∃ a dx fs, xs = [.ref a] ∧
  H a = some (.ins C dx fs) ∧ RetS sp E a H Q
theorem cr_strOwn (F : FnOk X.prog X.w X.K X.mg X.base CX0 k f fd ps sp) (hr : Room (k + 2) X.A) (hb : Binds X.K fd ps [])
    (hs : PySem.W.findIn X.K (.ref C) "__str__" = some (some (.ref f))) (hf : PySem.W.isFn X.K (.ref f) = true) :
    CallR X (.type "str") (rStrOwn C sp E) := by
  intro pins s σ H xs us Q I r h
  obtain ⟨a, dx, fs, rfl, ha, hq⟩ := h
  obtain ⟨u, rfl, ru⟩ := vals1 r
  cases (show u = Value.ref a from ru)
  obtain ⟨mA, OA, _⟩ := ins_get I.hok ha
  obtain ⟨oa, JA, _⟩ := OA.look
  apply PySem.W.kso_call hr.in1.in1.units0 I.kIn JA hs hf
  exact wpAny_mono (run_at ⟨hr.in1.in1, rfl⟩ F hb I (va .nil) hq) (fun _ _ z => strback_of z) fun _ _ z => z
theorem cr_reprOwn (F : FnOk X.prog X.w X.K X.mg X.base CX0 k f fd ps sp) (hr : Room (k + 1) X.A) (hb : Binds X.K fd ps [])
    (hs : PySem.W.findIn X.K (.ref C) "__repr__" = some (some (.ref f))) (hf : PySem.W.isFn X.K (.ref f) = true) :
    CallR X (.builtin "repr") (rStrOwn C sp E) := by
  intro pins s σ H xs us Q I r h
  obtain ⟨a, dx, fs, rfl, ha, hq⟩ := h
  obtain ⟨u, rfl, ru⟩ := vals1 r
  cases (show u = Value.ref a from ru)
  obtain ⟨mA, OA, _⟩ := ins_get I.hok ha
  obtain ⟨oa, JA, _⟩ := OA.look
  obtain ⟨m, hF⟩ := I.fr
  apply PySem.W.repr_K hr.in1.units0 hF I.ok.mod.kin JA hs hf
  exact wpAny_mono (run_at ⟨hr.in1, rfl⟩ F hb I (va .nil) hq) (fun _ _ z => strback_of z) fun _ _ z => z
end
end GX
namespace GX
open PySem PySem.Spec PyProof.Rows L2
open AutoSeq1 (wpAny_loadPart')

section
variable {prog : Program} {w : World} {A : Around} {E : Value → Shared → Prop} {s : Shared} {x C dx : Addr} {i : Int} {t : Tok}
theorem dec_add {Q : Fin → Shared → Prop} (ho : s.heap.get? x = some (PySem.W.instObj C dx)) (h : Q (.done (.ret .notImplemented)) s) :
    wpAny (model prog w) A (Builtin.«int.__add__» ⟨[.int i t, .ref x], []⟩) Q E s := by
  obtain ⟨hp, g, d, tk, os⟩ := s
  wp_walk using wpAny_loadPart' ho
  exact h
theorem dec_sub {Q : Fin → Shared → Prop} (ho : s.heap.get? x = some (PySem.W.instObj C dx)) (h : Q (.done (.ret .notImplemented)) s) :
    wpAny (model prog w) A (Builtin.«int.__sub__» ⟨[.int i t, .ref x], []⟩) Q E s := by
  obtain ⟨hp, g, d, tk, os⟩ := s
  wp_walk using wpAny_loadPart' ho
  exact h
theorem dec_mul {Q : Fin → Shared → Prop} (ho : s.heap.get? x = some (PySem.W.instObj C dx)) (h : Q (.done (.ret .notImplemented)) s) :
    wpAny (model prog w) A (Builtin.«int.__mul__» ⟨[.int i t, .ref x], []⟩) Q E s := by
  obtain ⟨hp, g, d, tk, os⟩ := s
  wp_walk using wpAny_loadPart' ho
  exact h
theorem dec_eq {Q : Fin → Shared → Prop} (ho : s.heap.get? x = some (PySem.W.instObj C dx)) (h : Q (.done (.ret .notImplemented)) s) :
    wpAny (model prog w) A (Builtin.«int.__eq__» ⟨[.int i t, .ref x], []⟩) Q E s := by
  obtain ⟨hp, g, d, tk, os⟩ := s
  wp_walk using wpAny_loadPart' ho
  exact h
end

section
variable {prog : Program} {w : World} {A : Around} {E : Value → Shared → Prop} {s : Shared} {K : PySem.W.Frag}
  {x C L f g : Addr} {h₀ : Heap} {m : Str → Option Value} {ox : Obj} {od : Option Obj} {i : Int} {t : Tok} {id : String}
/-- n op x, n an int that declines -/
theorem binR {op : Operator} {Q : Value → Shared → Prop} (F : Fr h₀ L s.heap m) (X₀ : K.In h₀)
    (I : PySem.W.InstAt s.heap x ox C od) (hc : PySem.W.selfFirst K C = true)
    (hs : PySem.W.findIn K (.ref C) (PySem.dunder op.info.2) = some (some (.ref g)))
    (hr : PySem.W.findIn K (.ref C) (dunderR op.info.2) = some (some (.ref f)))
    (hf : PySem.W.isFn K (.ref f) = true)
    (hi : fillsNumberSlot (.type "int") op.info.2 = pure true)
    (sl : Slot "int" (PySem.dunder op.info.2) id)
    (hsub : PySem.W.subIn K (.ref C) (.type "int") = some false)
    (hd : wpAny (model prog w) A (call (.builtin id) [.int i t, .ref x]) (fun v s' => v = .notImplemented ∧ s' = s) E s)
    (h : wpAny (model prog w) A (call (.ref f) [.ref x, .int i t]) (PySem.W.CmpBack Q) E s) :
    wpAny (model prog w) A (binaryOp op (.int i t) (.ref x)) Q E s := by
  have X := X₀.keeps F.keep
  obtain ⟨cd, rest, hcd, hm⟩ := PySem.W.ksp_first hc
  rcases ho : op.info with ⟨sym, nm'⟩
  rw [ho] at hs hr hi sl
  dsimp only at hs hr hi sl
  have one := PySem.W.ksp_try X I hr hf h
  have two : wpAny (model prog w) A (tryMethod (.int i t) (PySem.dunder nm') (.ref x)) (fun r s' => r = none ∧ s' = s) E s :=
    wpAny_tryMethod_declines (typeIs_int s i t) sl (wpAny_mono hd (fun v s' z => ⟨z.1, rfl, z.2⟩) fun _ _ z => z)
  obtain ⟨hh, gg, d, tt, os⟩ := s
  have L1 : PySem.W.Looks (model prog w) hh (typeOf (.ref x)) (.ref C) := I.type
  have L2 : PySem.W.Looks (model prog w) hh (typeOf (.int i t)) (.type "int") := PySem.W.Looks.of_pure rfl
  have L3 : PySem.W.Looks (model prog w) hh (fillsNumberSlot (.ref C) nm') true := PySem.W.fills_K X hcd hm hs
  have L4 : PySem.W.Looks (model prog w) hh (fillsNumberSlot (.type "int") nm') true := PySem.W.Looks.of_pure hi
  have L5 : PySem.W.Looks (model prog w) hh (isSubtype (.ref C) (.type "int")) false := PySem.W.looks_subIn X hsub
  have L7 : PySem.W.Looks (model prog w) hh (numberSlotInPython (.type "int") nm') false := PySem.W.Looks.of_pure rfl
  have hne : (Value.type "int" == Value.ref C) = false := Bool.eq_false_iff.mpr fun q => by cases beq_iff_eq.mp q
  simp only [binaryOp, ho]
  refine wpAny_holding (wpAny_bind ?_)
  unfold binaryOp1
  refine wpAny_bind (L2.at (wpAny_bind (L1.at (wpAny_bind (L4.at ?_)))))
  simp only [hne, Bool.false_eq_true, if_false]
  ksp_lk
  refine wpAny_mono two (fun r s' hr' => ?_) fun _ _ e => e
  obtain ⟨rfl, rfl⟩ := hr'
  ksp_lk
  refine wpAny_mono one (fun r s' hr' => ?_) fun _ _ e => e
  obtain ⟨v, rfl, hq⟩ := hr'
  ksp_lk
  exact hq
end
end GX
namespace GX
open PySem PySem.Spec PyProof.Rows L2
section
variable {prog : Program} {w : World} {A : Around} {E : Value → Shared → Prop} {s : Shared} {K : PySem.W.Frag}
  {x C L f g : Addr} {h₀ : Heap} {m : Str → Option Value} {ox : Obj} {od : Option Obj} {b tb : Value}

/-- a bool comes back -/
def BlBack (Q : Value → Shared → Prop) (v : Value) (s' : Shared) : Prop := ∃ r, v = .bool r ∧ Q (.bool (!r)) s'
theorem neBound {Q : Option Value → Shared → Prop} (hu : A.in1.units < cLine) (X : K.In s.heap)
    (I : PySem.W.InstAt s.heap x ox C od)
    (hn : PySem.W.findIn K (.ref C) "__ne__" = some (some (.builtin "object.__ne__")))
    (hm : PySem.W.mroIn K C (.type "object") = some true)
    (he : PySem.W.findIn K (.ref C) "__eq__" = some (some (.ref f))) (hf : PySem.W.isFn K (.ref f) = true)
    (h : wpAny (model prog w) A.in1 (call (.ref f) [.ref x, b]) (BlBack fun v => Q (some v)) E s) :
    wpAny (model prog w) A (callSpecialIfBound? (.ref x) "__ne__" [b]) Q E s := by
  simp only [callSpecialIfBound?, bindSpecialIfBound?]
  refine wpAny_holding (wpAny_bind (wpAny_bind (wpAny_bind (I.type.here ((PySem.W.looks_findIn X hn).here ?_)))))
  refine wpAny_bind (wpAny_askSetting (wpAny_ite ?_))
  have core : wpAny (model prog w) A (call (.builtin "object.__ne__") [.ref x, b]) (fun v => Q (some v)) E s := by
    refine wpAny_call (codeAny_call_builtin PySem.F.slot_object_ne.plain PySem.F.cmpEntry_ne
      (PySem.W.check_slot (i := "object.__ne__") (owner := "object") (n := "__ne__") (by decide +kernel) (by decide +kernel)
        (I.type.andThen (PySem.W.looks_mroIn X hm)) (PySem.F.cmpArgs_ne _ _) ?_))
    unfold Builtin.«object.__ne__»
    refine wpAny_bind (m := slotArgs "__ne__" 1 _) (wpAny_pure ?_)
    refine wpAny_bind (m := cRoomFor _ _) (wpAny_cRoomFor hu ?_)
    refine wpAny_bind (m := callSpecialIfBound? (.ref x) (Str.ofString "__eq__") _) (PySem.W.ifBound_K X I he hf (wpAny_mono h (fun r s' hq => ?_) fun _ _ y => y))
    obtain ⟨r', rfl, hq⟩ := hq
    exact wpAny_bind (wpAny_truthy_bool (wpAny_pure hq))
  have fin : wpAny (model prog w) A (call (.builtin "object.__ne__") ([.ref x] ++ [b]) >>= fun v => pure (some v)) Q E s :=
    wpAny_bind (wpAny_mono core (fun v s' h' => wpAny_pure h') fun _ _ h' => h')
  have bd := PySem.F.slot_object_ne.bind (.ref x)
  split
  · exact wpAny_bind ((PySem.W.Looks.of_pure bd).here (wpAny_pure (by exact fin)))
  · exact wpAny_tryCatch (wpAny_bind ((PySem.W.Looks.of_pure bd).here (wpAny_pure (by exact fin))))

theorem ne_own {Q : Value → Shared → Prop} (hu : A.units < cLine) (hu1 : A.in1.units < cLine) (X : K.In s.heap)
    (I : PySem.W.InstAt s.heap x ox C od) (hb : PySem.W.Looks (model prog w) s.heap (typeOf b) tb)
    (nf : PySem.W.notFirst K C tb = true)
    (hn : PySem.W.findIn K (.ref C) "__ne__" = some (some (.builtin "object.__ne__")))
    (hm : PySem.W.mroIn K C (.type "object") = some true)
    (he : PySem.W.findIn K (.ref C) "__eq__" = some (some (.ref f))) (hf : PySem.W.isFn K (.ref f) = true)
    (h : wpAny (model prog w) A.in1 (call (.ref f) [.ref x, b]) (BlBack Q) E s) :
    wpAny (model prog w) A (richCompare .NotEq (.ref x) b) Q E s := by
  have one : wpAny (model prog w) A (tryCompare (.ref x) "__ne__" b) (fun r s' => ∃ v, r = some v ∧ Q v s') E s := by
    unfold tryCompare
    refine wpAny_bind (neBound hu1 X I hn hm he hf (wpAny_mono h (fun v s' hv => ?_) fun _ _ e => e))
    obtain ⟨r, rfl, hq⟩ := hv
    exact ⟨r, rfl, wpAny_pure ⟨_, rfl, hq⟩⟩
  unfold richCompare
  simp only [oneThing_ref]
  refine wpAny_holding (wpAny_bind (wpAny_cRoomFor hu ?_))
  refine wpAny_bind (I.type.here (wpAny_bind (hb.here ?_)))
  split
  · rename_i q
    have e : PySem.W.subIn K tb (.ref C) = some false := by
      rcases Bool.or_eq_true_iff.mp nf with e | e
      · rw [beq_iff_eq.mp e] at q; simp at q
      · exact beq_iff_eq.mp e
    refine wpAny_bind ((PySem.W.looks_subIn X e).here ?_)
    simp only [Bool.false_eq_true, if_false]
    refine wpAny_bind (wpAny_mono one (fun r s' z => ?_) fun _ _ e => e)
    obtain ⟨v, rfl, hq⟩ := z
    exact wpAny_pure hq
  · refine wpAny_bind (wpAny_pure ?_)
    simp only [Bool.false_eq_true, if_false]
    refine wpAny_bind (wpAny_mono one (fun r s' z => ?_) fun _ _ e => e)
    obtain ⟨v, rfl, hq⟩ := z
    exact wpAny_pure hq

/-- n == x, n an int -/
theorem eq_intOwn {i : Int} {t : Tok} {dx : Addr} {Q : Value → Shared → Prop} (hu : A.units < cLine) (X : K.In s.heap)
    (I : PySem.W.InstAt s.heap x (PySem.W.instObj C dx) C od)
    (hsub : PySem.W.subIn K (.ref C) (.type "int") = some false)
    (he : PySem.W.findIn K (.ref C) "__eq__" = some (some (.ref f))) (hf : PySem.W.isFn K (.ref f) = true)
    (h : wpAny (model prog w) A (call (.ref f) [.ref x, .int i t]) (PySem.W.CmpBack Q) E s) :
    wpAny (model prog w) A (richCompare .Eq (.int i t) (.ref x)) Q E s := by
  have one : wpAny (model prog w) A (tryCompare (.ref x) "__eq__" (.int i t)) (fun r s' => ∃ v, r = some v ∧ Q v s') E s := by
    unfold tryCompare
    refine wpAny_bind (PySem.W.ifBound_K X I he hf (wpAny_mono h (fun v s' hv => ?_) fun _ _ e => e))
    cases v <;> first | exact hv.elim | exact wpAny_pure ⟨_, rfl, hv⟩
  have two : wpAny (model prog w) A (tryCompare (.int i t) "__eq__" (.ref x)) (fun r s' => r = none ∧ s' = s) E s := by
    refine wpAny_tryCompare_declines (typeIs_int s i t) PySem.F.slot_int_eq ?_
    refine GQ.call_here PySem.F.slot_int_eq (typeIs_int s i t) PySem.F.entry_int_eq (PySem.F.args_int_eq_2 _ _) ?_
    exact dec_eq I.at_ ⟨rfl, rfl, rfl⟩
  unfold richCompare
  have ot : oneThing? .Eq (.int i t) (.ref x) = none := rfl
  simp only [ot]
  refine wpAny_holding (wpAny_bind (wpAny_cRoomFor hu ?_))
  refine wpAny_bind (wpAny_typeOf (typeIs_int s i t) (wpAny_bind (I.type.here ?_)))
  rw [if_pos (by simp)]
  refine wpAny_bind ((PySem.W.looks_subIn X hsub).here ?_)
  simp only [Bool.false_eq_true, if_false]
  refine wpAny_bind (wpAny_mono two (fun r s' z => ?_) fun _ _ e => e)
  obtain ⟨rfl, rfl⟩ := z
  simp only [Bool.not_false, if_true]
  refine wpAny_bind (wpAny_mono one (fun r s' z => ?_) fun _ _ e => e)
  obtain ⟨v, rfl, hq⟩ := z
  exact wpAny_pure hq
end
end GX
/-! A def's promise where no repr is under way: guards told. -/
namespace GX
open PySem PySem.Spec PyProof.Rows L2
/-- as FnOk, of arounds in which no container is being shown -/
structure FnG (P : Program) (w : World) (K : PySem.W.Frag) (mg : Str → Option Value)
    (base : Heap) (CX : CXT) (k : Nat) (f : Addr) (fd : FuncData) (ps : List Str) (sp : Sp) : Prop where
  len : ∀ vs H Q E, sp vs H Q E → vs.length = ps.length
  run : ∀ (A : Around) (outer : List Env) (s : Shared) (H : Hp) (args : Args)
    (us : List Value) (vs : List V) (Q : VK) (E : XK), A.guards = some [] → Room k A →
    Env0 P w K mg base A outer s H → BindsTo s fd args (ps.zip us) → Vals vs us → sp vs H Q E →
    codeAny (model P w) A (.call (.ref f) args) (CR CX outer P w H s Q E) s

theorem FnG.of {P : Program} {w : World} {K : PySem.W.Frag} {mg : Str → Option Value} {base : Heap}
    {CX : CXT} {k : Nat} {f : Addr} {fd : FuncData} {ps : List Str} {sp : Sp}
    (F : FnOk P w K mg base CX k f fd ps sp) : FnG P w K mg base CX k f fd ps sp :=
  ⟨F.len, fun A o s H a us vs Q E _ hr e b v h => F.run A o s H a us vs Q E hr e b v h⟩

theorem fn_ofG {CX : CXT} {P : Program} {w : World} {K : PySem.W.Frag} {mg : Str → Option Value}
    {base : Heap} {k : Nat} {f : Addr} {name qual : Str} {params : Arguments} {body : List Stmt}
    {scope : Scope} {dV kV doc pm cdv ct oc : Value} {an od : Option Addr}
    {osl : Array (Option Value)} {N ps : List Str} {sp : Sp}
    (lk : K.lookup f = some ⟨oc, od, .func (PySem.W.fnOf name qual params body scope dV kV doc pm an cdv ct), osl⟩)
    (hcd : PySem.W.codeIn K cdv qual = true) (S : FnScope N ps scope)
    (len : ∀ vs H Q E, sp vs H Q E → vs.length = ps.length)
    (hbody : ∀ (A : Around) (outer : List Env) (s : Shared) (H : Hp) (vs : List V) (Q : VK) (E : XK),
      A.guards = some [] → Room k (A.deeper (envOfC qual scope s.heap.objs.size f cdv)) → sp vs H Q E →
      ∃ t, PSs (cxOf CX P w K mg base N qual scope f cdv A outer s H E) body t ∧
        t { nx := fun _ H' => Q .non H', rt := Q } (start N vs) H) :
    FnG P w K mg base CX (k + 1) f (PySem.W.fnOf name qual params body scope dV kV doc pm an cdv ct) ps sp := by
  constructor
  · exact len
  intro A outer s H args us vs Q E gd hr e0 hb r hsp
  have below : ∀ b o, base.get? b = some o → s.heap.get? b = some o := fun b o e => (e0.bs b o e).1
  have kin := e0.mod.kin.keeps below
  have nol := e0.mod.nolimit.keeps below
  have kinds : ∀ y ∈ ps.zip us, scope.names.lookup y.1 = some .local ∨
      (scope.names.lookup y.1 = some .cell ∧
        ((cellsFrom (s.heap.objs.size + 1) scope.names []).lookup y.1).isSome = true) := by
    rintro ⟨n, v⟩ hy
    cases S.par n (List.of_mem_zip hy).1 with
    | inl q => exact .inl q
    | inr q => exact .inr ⟨q, PySem.W.cellsFrom_some _ _ _ (.inl q)⟩
  apply codeAny_call_function hr.depth (kin _ _ lk) rfl S.co S.gen rfl (PySem.W.codeRec_of kin hcd)
  apply hb
  apply wpAny_newFunctionEnv_cells S.kind kinds
  intro env he s1 x
  subst he
  refine ⟨nol.keeps x.toInCall.keep, ?_⟩
  apply codeAny_func
  obtain ⟨t, ht, hq⟩ := hbody A outer s H vs Q E gd (hr.deeper _) hsp
  have I0 := inv_start (CX := CX) (E := E) S hr.hd e0 (len _ _ _ _ hsp) r x
  apply wpAny_mono (ht.run [] s1 (start N vs) H _ I0 hq)
  · intro fl s' hs
    cases fl with
    | ret u =>
      obtain ⟨v, σ', H', J, rv, q⟩ := hs
      exact ⟨v, H', J.os, J.bare, J.base, J.hok, rv, q⟩
    | next =>
      obtain ⟨σ', H', J, q⟩ := hs
      exact ⟨V.non, H', J.os, J.bare, J.base, J.hok, rfl, q⟩
    | brk => obtain ⟨_, _, _, q⟩ := hs; exact q.elim
    | cont => obtain ⟨_, _, _, q⟩ := hs; exact q.elim
  · intro e s' hs
    exact hs

section
variable {P : Program} {w : World} {K : PySem.W.Frag} {mg : Str → Option Value} {base : Heap}
/-- a def of the text that lets nothing out -/
theorem okG {x qual : Str} {st : Stmt} {f : Addr} {fd : FuncData} {N ps : List Str} {k : Nat} {sp : Sp}
    (F : Fun K x qual st f fd) (S : FnScope N ps (defScope st))
    (len : ∀ vs H Q E, sp vs H Q E → vs.length = ps.length)
    (hbody : ∀ (cdv : Value) (A : Around) (outer : List Env) (s : Shared) (H : Hp) (vs : List V) (Q : VK) (E : XK),
      A.guards = some [] → Room k (A.deeper (envOfC qual (defScope st) s.heap.objs.size f cdv)) → sp vs H Q E →
      ∃ t, PSs (cxOf CX0 P w K mg base N qual (defScope st) f cdv A outer s H E).nox (defBody st) t ∧
        t { nx := fun _ H' => Q .non H', rt := Q } (start N vs) H) :
    FnG P w K mg base CX0 (k + 1) f fd ps sp := by
  obtain ⟨oc, od, kV, doc, pm, an, cdv, ct, osl, rfl, lk, hcd⟩ := F.ex
  apply fn_ofG lk hcd S len
  intro A outer s H vs Q E gd hr hsp
  obtain ⟨t, h, q⟩ := hbody cdv A outer s H vs Q E gd hr hsp
  exact ⟨t, h.nox, q⟩
end

section
variable {X : Cx} {CX : CXT} {k : Nat} {f : Addr} {fd : FuncData} {ps : List Str} {sp : Sp} {dvs : List V}
  {ds : List Value} {E : XK} {x : Str} {p pos : Pos} {e : Expr} {es : List Expr} {t : TA}
theorem run_fnG {pins : List (Addr × Obj)} {σ : L2.St} {H : Hp} {s : Shared} {Q : VK} {us : List Value} {vs : List V}
    (F : FnG X.prog X.w X.K X.mg X.base CX k f fd ps sp) (gd : X.A.guards = some []) (hr : Room k X.A)
    (hb : Binds X.K fd ps ds) (hd : Vals dvs ds) (hx : Passes CX X E) (I : Inv X pins σ H s) (r : Vals vs us)
    (h : sp (vs ++ dvs) H Q E) : wpAny (model X.prog X.w) X.A (call (.ref f) us) (EP X pins σ Q) X.xe s := by
  have ra := r.append hd
  have le : (us ++ ds).length = ps.length := ra.length ▸ F.len _ _ _ _ h
  apply wpAny_call
  apply codeAny_mono (F.run X.A X.stack s H ⟨us, []⟩ (us ++ ds) (vs ++ dvs) Q E gd hr I.env0 (hb s us I.kIn le) ra h)
  intro c s' hq
  match c, hq with
  | .error e, hq => exact hx pins σ H s e s' I hq
  | .ok (.ret u), hq => exact I.after hq
  | .ok .next, hq => exact hq.elim
  | .ok .brk, hq => exact hq.elim
  | .ok .cont, hq => exact hq.elim

theorem pe_callG (F : FnG X.prog X.w X.K X.mg X.base CX k f fd ps sp) (gd : X.A.guards = some []) (hr : Room k X.A)
    (hg : Gl X x) (hm : X.mg x = some (.ref f)) (hk : PySem.W.keepIn X.K (.ref f) = true)
    (hb : Binds X.K fd ps ds) (hd : Vals dvs ds) (hx : Passes CX X E) (ha : PA X (e :: es) t)
    (hdb : (x == ("__debug__" : Str)) = false := by decide)
    (he : starEach (e :: es) X.env = (false, eval e X.env) :: starEach es X.env := by rfl)
    (hpl : (backTo pos (starEach es X.env)).any (·.1) = false := by rfl) :
    PE X (.Call (.Name x p) (e :: es) [] pos) (tCall sp dvs E t) := by
  constructor
  intro pins s σ H Q I h
  apply wpAny_Call_Name_kw
  apply ld_glob I hg hm _ hdb
  apply PySem.W.callWith_K (h₀ := X.base) I.ok.mod.kin hk _ he hpl
  apply thn (ha.run pos pins s σ H _ I h)
  rintro us s1 ⟨vs, H1, I1, r, q⟩
  exact ⟨I1.kIn, run_fnG F gd hr hb hd hx I1 r q⟩
end

/-- what may stand in the heap when the law is called: nothing but the script -/
theorem law_callG {P : Program} {w : World} {K : PySem.W.Frag} {mg mb : Str → Option Value} {CX : CXT} {k : Nat}
    {fa a : Addr} {fd : FuncData} {x : Str} {sp : Sp} {z : Shared} {vs : List Value} {ns : List Int}
    (KX : K.In z.heap) (hns : z.heap.Ns mainGlobals mg) (hb : z.heap.Ns builtinsNs mb)
    (hbb : ∀ x : Str, x ≠ "__name__" → mb x = bootBuiltins x) (hlim : z.heap.NoLimit) (hg : z.gens = #[])
    (ha : z.heap.get? a = some { cls := .type "list", data := .seq vs.toArray }) (hi : IntsAre vs ns)
    (hl : ns.length ≤ sizeLine) (hr : Room k callerA)
    (F : ∀ base : Heap, K.In base → base.Ns mainGlobals mg → FnG P w K mg base CX k fa fd [x] sp)
    (hbind : ∀ (s : Shared) (u : Value), BindsTo s fd ⟨[u], []⟩ [(x, u)])
    (hsp : ∀ H : Hp, Only H → SqL K H a (ns.map V.int) → sp [.ref a] H (fun v _ => v = .bl true) fun _ _ _ => False)
    (hCX : ∀ H e s', CX [] H z (fun _ _ _ => False) e s' → False) :
    codeAny (model P w) callerA (.call (.ref fa) ⟨[.ref a], []⟩)
      (fun r s' => r = .ok (.ret (.bool true)) ∧ OldK z.heap s'.heap ∧ s'.os = z.os ∧ AllBare s'.gens) z := by
  have rel := vals_ints hi
  have len := hi.length
  have main : ∀ H : Hp, Only H → SqL K H a (ns.map V.int) → HOk P w H z.heap → (∀ b, H b ≠ none → b = a) →
      (H a ≠ none → K.lookup a = none) → codeAny (model P w) callerA (.call (.ref fa) ⟨[.ref a], []⟩)
      (fun r s' => r = .ok (.ret (.bool true)) ∧ OldK z.heap s'.heap ∧ s'.os = z.os ∧ AllBare s'.gens) z := by
    intro H hO hS hok hA hK
    have only : ∀ b, b ≠ a → H b = none := fun b hb => Decidable.byContradiction fun n => hb (hA b n)
    have seen : ∀ {b : Addr} {o : Obj}, z.heap.get? b = some o → H b = none → (hidT z.heap H).get? b = some o :=
      fun e n => hidT_get e n
    have nsT : ∀ {b : Addr} {m : Str → Option Value}, z.heap.Ns b m → (hidT z.heap H).Ns b m := by
      rintro b m ⟨o, es, ep, e, d, r⟩
      refine ⟨o, es, ep, seen e (only b fun q => ?_), d, r⟩
      subst q
      rw [ha] at e
      cases e
      cases d
    have kb : K.In (hidT z.heap H) := by
      intro b o e
      apply seen (KX b o e)
      by_cases hb : b = a
      · subst hb
        exact Decidable.byContradiction fun n => by rw [hK n] at e; cases e
      · exact only b hb
    have md : Mod K mg (hidT z.heap H) := by
      obtain ⟨mc, h1, h2⟩ := hlim
      exact ⟨kb, nsT hns, ⟨mb, nsT hb, hbb⟩, ⟨mc, nsT h1, h2⟩⟩
    have e0 : Env0 P w K mg (hidT z.heap H) callerA [] z H := by
      refine ⟨rfl, md, fun b o e => of_hidT e, Nat.le_of_eq (hidT_size _ _), trivial, ?_, hok, .of_eq hg⟩
      intro b hb
      cases (show b ∈ ([] : List Addr) from hb)
    apply codeAny_mono ((F _ kb (nsT hns)).run callerA [] z H ⟨[.ref a], []⟩ [.ref a] [.ref a] _ _ rfl hr e0
      (hbind z (.ref a)) (.cons rfl .nil) (hsp H hO hS))
    intro c s' h
    match c, h with
    | .error e, h => exact (hCX H e s' h).elim
    | .ok .next, h => exact h.elim
    | .ok .brk, h => exact h.elim
    | .ok .cont, h => exact h.elim
    | .ok (.ret u), h =>
      obtain ⟨v, H', os, bare, un, hok', r', q⟩ := h
      have tr : v = .bl true := q
      subst tr
      cases (show u = Value.bool true from r')
      refine ⟨rfl, OldK.of_keep fun b o e => ?_, os, bare⟩
      cases hb : H b with
      | none => exact un.keep b o e hb (fun m => by cases (show b ∈ ([] : List Addr) from m)) (by simp)
      | some u =>
        rcases hO b with n | ⟨ob, xs, n⟩
        · rw [hb] at n; cases n
        · obtain ⟨g1, _⟩ := hok b _ n
          obtain ⟨g2, _⟩ := hok' b _ (un.frzs b ob _ n)
          rw [e] at g1
          cases g1
          exact g2
  cases hk : K.lookup a with
  | some o =>
    have e := KX a o hk
    rw [ha] at e
    cases e
    refine main (fun _ => none) (fun _ => .inl rfl) (.inr ⟨_, vs.toArray, _, hk, rfl, rfl, rfl, ?_, ?_⟩) ?_ ?_ ?_
    · rw [List.size_toArray, len]; exact hl
    · simpa using rel
    · intro b u q
      cases (show (none : Option HO) = some u from q)
    · exact fun b q => absurd rfl q
    · exact fun q => absurd rfl q
  | none =>
    let H0 : Hp := upd (fun _ => none) a (.frz { cls := .type "list", data := .seq vs.toArray } (.lst (ns.map V.int)))
    have ho : ∀ b, b ≠ a → H0 b = none := fun b hb => upd_ne hb
    refine main H0 (fun b => ?_) (.inl (.inr ⟨_, upd_same⟩)) (fun b u q => ?_) (fun b q => ?_) fun _ => hk
    · by_cases hb : b = a
      · subst hb; exact .inr ⟨_, _, upd_same⟩
      · exact .inl (ho b hb)
    · by_cases hb : b = a
      · subst hb
        cases (upd_same.symm.trans q : some _ = some u)
        exact ⟨ha, by rw [List.length_map]; exact hl, vs, _, rel, ha⟩
      · rw [ho b hb] at q; cases q
    · by_cases hb : b = a
      · exact hb
      · exact absurd (ho b hb) q

/-- the end of a law row, the script's bits told, no repr under way -/
theorem walk_ofG {l : PySem.W.OpenLaw} {n k : Nat} {q : Program} {loose : List Str}
    {XP : (Str → Option Value) → Heap → Prop} {YP : World → Heap → Prop} {d : DefRec}
    {K : Params → PySem.W.Frag} {CX : World → CXT} {sp : World → Sp} {x : Str}
    (hn : l.most = some n) (hn2 : n ≤ sizeLine) (hdf : d.params.defaults = []) (hr : Room k callerA)
    (hY : ∀ (w : World) (h : Heap), YP w h → (K w.params).In h)
    (F : ∀ (w : World) (mg : Str → Option Value) (fa : Addr) (h : Heap), (K w.params).In h →
      h.Ns mainGlobals mg → mg d.name = some (.ref fa) →
      ∃ fd : FuncData, (∀ (s : Shared) (u : Value), BindsTo s fd ⟨[u], []⟩ [(x, u)]) ∧ ∀ base : Heap,
        (K w.params).In base → base.Ns mainGlobals mg → FnG l.prog w (K w.params) mg base (CX w) k fa fd [x] (sp w))
    (hsp : ∀ (w : World) (H : Hp) (a : Addr) (ns : List Int), ns.length ≤ n →
      (∀ z ∈ ns, Builtin.Int.intBits z ≤ 1048576) → Only H → SqL (K w.params) H a (ns.map V.int) →
      sp w [.ref a] H (fun v _ => v = .bl true) fun _ _ _ => False)
    (hCX : ∀ (w : World) (H : Hp) (s : Shared) (e : Value) (s' : Shared),
      CX w [] H s (fun _ _ _ => False) e s' → False) :
    PySem.W.WalkO q loose XP YP l.row.toRowW d [] (fun f vs => PySem.call f vs) := by
  apply Att.attach_callB hn hdf
  intro w s₀ s₁ mg mb fa o pm cd doc a vs ns G Y ho hd hcd hmg hobj hints hlen hbits hg
  have kin := hY w _ Y
  obtain ⟨fd, hb, hF⟩ := F w mg fa _ kin G.T.g hmg
  apply law_callG kin G.T.g G.T.b G.T.builtins G.T.nolimit hg hobj hints (Nat.le_trans hlen hn2) hr hF hb
  · exact fun H hO hS => hsp w H a ns hlen hbits hO hS
  · exact fun H e s' => hCX w H s₁ e s'
end GX
namespace GX
open PySem PySem.Spec PyProof.Rows L2
section
variable {X : Cx} {k : Nat} {f g C : Addr} {fd : FuncData} {ps : List Str} {sp : Sp} {E : XK}

/-- n op a, n an int: the reflected method -/
def rNOwn (C : Addr) (sp : Sp) (E : XK) : R2 := fun x y H Q => ∃ i a dx fs, x = .int i ∧ y = .ref a ∧
  H a = some (.ins C dx fs) ∧ sp [.ref a, .int i] H Q E
theorem op_NOwn {op : Operator} {id : String} {B : Builtin} (F : FnOk X.prog X.w X.K X.mg X.base CX0 k f fd ps sp)
    (hr : Room k X.A) (hb : Binds X.K fd ps []) (hc : PySem.W.selfFirst X.K C = true)
    (hs : PySem.W.findIn X.K (.ref C) (PySem.dunder op.info.2) = some (some (.ref g)))
    (hr2 : PySem.W.findIn X.K (.ref C) (dunderR op.info.2) = some (some (.ref f)))
    (hf : PySem.W.isFn X.K (.ref f) = true)
    (hsub : PySem.W.subIn X.K (.ref C) (.type "int") = some false)
    (hi : fillsNumberSlot (.type "int") op.info.2 = pure true)
    (sl : Slot "int" (PySem.dunder op.info.2) id) (en : entryFor table id = some B)
    (ar : ∀ a b, argsOk id ⟨[a, b], []⟩)
    (dec : ∀ {A : Around} {E : Value → Shared → Prop} {s : Shared} {x C dx : Addr} {i : Int} {t : Tok} {Q : Fin → Shared → Prop},
      s.heap.get? x = some (PySem.W.instObj C dx) → Q (.done (.ret .notImplemented)) s →
      wpAny (model X.prog X.w) A (B ⟨[.int i t, .ref x], []⟩) Q E s) : OpR X (binaryOp op) (rNOwn C sp E) := by
  intro pins s σ H x y u v Q I rx ry h
  obtain ⟨i, a, dx, fs, rfl, rfl, ha, hq⟩ := h
  obtain ⟨t, rfl⟩ := (show ∃ t, u = Value.int i t from rx)
  cases (show v = Value.ref a from ry)
  obtain ⟨mA, OA, _⟩ := ins_get I.hok ha
  obtain ⟨oa, JA, _⟩ := OA.look
  obtain ⟨m, hF⟩ := I.fr
  refine binR hF I.ok.mod.kin JA hc hs hr2 hf hi sl hsub ?_ ?_
  · refine GQ.call_here sl (typeIs_int s i t) en (ar _ _) ?_
    exact dec JA.at_ ⟨rfl, rfl⟩
  · exact wpAny_mono (run_at ⟨hr, rfl⟩ F hb I (va (vi .nil)) hq) (fun _ _ z => back_of z) fun _ _ z => z

/-- a == y: the own method; y any value whose type is told -/
def rEqOwn (K : PySem.W.Frag) (C : Addr) (sp : Sp) (E : XK) : R2 := fun x y H Q => ∃ a dx fs, x = .ref a ∧
  H a = some (.ins C dx fs) ∧ ((∃ i, y = .int i) ∨ ∃ b dy gs, y = .ref b ∧ H b = some (.ins C dy gs)) ∧ sp [.ref a, y] H Q E
theorem op_eqOwn (F : FnOk X.prog X.w X.K X.mg X.base CX0 k f fd ps sp)
    (hr : Room k X.A) (hb : Binds X.K fd ps [])
    (hs : PySem.W.findIn X.K (.ref C) "__eq__" = some (some (.ref f)))
    (hf : PySem.W.isFn X.K (.ref f) = true)
    (hn : PySem.W.subIn X.K (.type "int") (.ref C) = some false) : OpR X (compareOp .Eq) (rEqOwn X.K C sp E) := by
  intro pins s σ H x y u v Q I rx ry h
  obtain ⟨a, dx, fs, rfl, ha, hy, hq⟩ := h
  cases (show u = Value.ref a from rx)
  obtain ⟨mA, OA, _⟩ := ins_get I.hok ha
  obtain ⟨oa, JA, _⟩ := OA.look
  obtain ⟨m, hF⟩ := I.fr
  show wpAny (model X.prog X.w) X.A (richCompare .Eq (.ref a) v) (EP X pins σ Q) X.xe s
  have run := wpAny_mono (run_at (Ex := X.xe) ⟨hr, rfl⟩ F hb I (va (.cons ry .nil)) hq) (fun _ _ z => back_of z) fun _ _ z => z
  rcases hy with ⟨i, rfl⟩ | ⟨b, dy, gs, rfl, hb'⟩
  · obtain ⟨t, rfl⟩ := (show ∃ t, v = Value.int i t from ry)
    exact PySem.W.cmp_K (op := .Eq) (tb := .type "int") hr.units0 hF I.ok.mod.kin JA (PySem.W.Looks.of_pure rfl) (by unfold PySem.W.notFirst; rw [hn]; simp) hs hf run
  · cases (show v = Value.ref b from ry)
    obtain ⟨mB, OB, _⟩ := ins_get I.hok hb'
    obtain ⟨ob, JB, _⟩ := OB.look
    exact PySem.W.cmp_K (op := .Eq) (tb := .ref C) hr.units0 hF I.ok.mod.kin JA JB.type (by simp [PySem.W.notFirst]) hs hf run

/-- n == a, n an int -/
theorem op_eqN (F : FnOk X.prog X.w X.K X.mg X.base CX0 k f fd ps sp)
    (hr : Room k X.A) (hb : Binds X.K fd ps [])
    (hs : PySem.W.findIn X.K (.ref C) "__eq__" = some (some (.ref f)))
    (hf : PySem.W.isFn X.K (.ref f) = true)
    (hsub : PySem.W.subIn X.K (.ref C) (.type "int") = some false) : OpR X (compareOp .Eq) (rNOwn C sp E) := by
  intro pins s σ H x y u v Q I rx ry h
  obtain ⟨i, a, dx, fs, rfl, rfl, ha, hq⟩ := h
  obtain ⟨t, rfl⟩ := (show ∃ t, u = Value.int i t from rx)
  cases (show v = Value.ref a from ry)
  obtain ⟨mA, OA, _⟩ := ins_get I.hok ha
  obtain ⟨oa, JA, _⟩ := OA.look
  show wpAny (model X.prog X.w) X.A (richCompare .Eq (.int i t) (.ref a)) (EP X pins σ Q) X.xe s
  refine eq_intOwn hr.units0 I.kIn JA hsub hs hf ?_
  exact wpAny_mono (run_at ⟨hr, rfl⟩ F hb I (va (vi .nil)) hq) (fun _ _ z => back_of z) fun _ _ z => z

/-- a != b, both of the class at C, by its own == -/
def rNeOwn (C : Addr) (sp : Sp) (E : XK) : R2 := fun x y H Q => ∃ a b dx dy fs gs, x = .ref a ∧ y = .ref b ∧
  H a = some (.ins C dx fs) ∧ H b = some (.ins C dy gs) ∧ sp [.ref a, .ref b] H (fun v H' => ∃ r, v = .bl r ∧ Q (.bl (!r)) H') E
theorem op_neOwn (F : FnOk X.prog X.w X.K X.mg X.base CX0 k f fd ps sp)
    (hr : Room (k + 1) X.A) (hb : Binds X.K fd ps [])
    (hn : PySem.W.findIn X.K (.ref C) "__ne__" = some (some (.builtin "object.__ne__")))
    (hm : PySem.W.mroIn X.K C (.type "object") = some true)
    (hs : PySem.W.findIn X.K (.ref C) "__eq__" = some (some (.ref f)))
    (hf : PySem.W.isFn X.K (.ref f) = true) : OpR X (compareOp .NotEq) (rNeOwn C sp E) := by
  intro pins s σ H x y u v Q I rx ry h
  obtain ⟨a, b, dx, dy, fs, gs, rfl, rfl, ha, hb', hq⟩ := h
  cases (show u = Value.ref a from rx)
  cases (show v = Value.ref b from ry)
  obtain ⟨mA, OA, _⟩ := ins_get I.hok ha
  obtain ⟨oa, JA, _⟩ := OA.look
  obtain ⟨mB, OB, _⟩ := ins_get I.hok hb'
  obtain ⟨ob, JB, _⟩ := OB.look
  show wpAny (model X.prog X.w) X.A (richCompare .NotEq (.ref a) (.ref b)) (EP X pins σ Q) X.xe s
  refine ne_own hr.units0 hr.in1.units0 I.kIn JA JB.type (by simp [PySem.W.notFirst]) hn hm hs hf ?_
  refine wpAny_mono (run_at ⟨hr.in1, rfl⟩ F hb I (va (va .nil)) hq) (fun z s' q => ?_) fun _ _ z => z
  obtain ⟨w', H', I', rw', r, rfl, q'⟩ := q
  cases (show z = Value.bool r from rw')
  exact ⟨r, rfl, .bl _, H', I', rfl, q'⟩

/-- repr of made data -/
theorem cr_reprD (gd : X.A.guards = some []) (hr : Room k X.A) : CallR X (.builtin "repr") (fun xs H Q => ∃ p d, xs = [.ref p] ∧
    Dp X.K H (.ref p) d ∧ d.showable = true ∧ d.hasDict = false ∧ d.depth ≤ 60 ∧ d.shown.length ≤ sizeLine ∧ Q (.str d.shown) H) := by
  intro pins s σ H xs us Q I r h
  obtain ⟨p, d, rfl, hd, hs, hn, hp, hl, q⟩ := h
  obtain ⟨u, rfl, ru⟩ := vals1 r
  cases (show u = Value.ref p from ru)
  obtain ⟨as, rd⟩ := Dp.reads I d _ _ hd rfl
  refine repr_of_reads' rd hs (fun e => by rw [hn] at e; cases e) gd (by have := hr.un; omega) (fun _ _ e => e) (fun h' u tk hk => ?_) hl
  exact ⟨.str d.shown, H, I.kept hk, ⟨_, rfl⟩, q⟩
end

/-! ### o.m(k = v), C.m(k = v), cls(e) -/
/-- o.m(k = e), the further parameter by its name -/
def tMethK (C : Addr) (m : Str) (sp : Sp) (E : XK) (ta : TE) (t : TA) : TE := fun σ H Q => ta σ H fun x H1 =>
  ∃ a dx fs, x = .ref a ∧ H1 a = some (.ins C dx fs) ∧ fs.lookup m = none ∧ t σ H1 fun vs H2 => vs.length = 1 ∧ sp (x :: vs) H2 Q E
section
variable {X : Cx} {k : Nat} {f g C p : Addr} {fd : FuncData} {ps : List Str} {sp : Sp} {E : XK} {o e : Expr} {m nm x : Str} {pos apos kpos : Pos} {ta te : TE} {t : TA} {mc : Value}
theorem pe_methK {pl : Sem Bool} (he : PE X o ta) (c : Cls X.K C) (hm : Meth X.K C m f)
    (F : FnOk X.prog X.w X.K X.mg X.base CX0 k f fd ps sp) (hr : Room k X.A)
    (hb : KBn X.K fd ps 1 [nm] (fun us ws => us ++ ws) (fun vs zs => vs ++ zs)) (hx : Passes CX0 X E) (ha : PE X e te)
    (hall : (backToKw pos (keywordEach [⟨some nm, e, kpos⟩] X.env)).all (·.1.isSome) = true := by rfl)
    (hks : (backToKw pos (keywordEach [⟨some nm, e, kpos⟩] X.env)).filterMap (·.1) = [nm] := by rfl)
    (hpl : ((backTo pos (starEach [] X.env)).any (·.1) || (backToKw pos (keywordEach [⟨some nm, e, kpos⟩] X.env)).any (·.1.isNone)) = false := by rfl)
    (ht : eval (.Call (.Attribute o m apos) [] [⟨some nm, e, kpos⟩] pos) X.env = (do
      let ov ← eval o X.env
      standAt apos.atName
      let (f, first) ← holding [ov] (getMethod ov m pl)
      callWith pos f first (backTo pos (starEach [] X.env)) (backToKw pos (keywordEach [⟨some nm, e, kpos⟩] X.env))) := by rfl) :
    PE X (.Call (.Attribute o m apos) [] [⟨some nm, e, kpos⟩] pos) (tMethK C m sp E ta (tCons te tNil)) := by
  constructor
  intro pins s σ H Q I h
  refine PySem.W.methodCall_KW (pl := pl) (thn (he.run pins s σ H _ I h) fun u s1 z => ?_) ht
  obtain ⟨x, H1, I1, rx, a, dx, fs, ex, ea, l, q⟩ := z
  subst ex
  cases (show u = Value.ref a from rx)
  refine getmeth_ok I1 ea c hm l ?_
  refine PySem.W.callWith_KW0 (h₀ := X.base) I.ok.mod.kin hm.kp hall ?_ hpl
  refine thn ((pk_cons (nm := some nm) (kpos := kpos) ha pk_nil).run pos pins s1 σ H1 _ I1 q) fun ws s2 z => ?_
  obtain ⟨zs, H2, I2, rz, l1, q2⟩ := z
  refine ⟨I2.kIn, ?_⟩
  rw [hks]
  exact run_fnN (ks := [nm]) (us := [.ref a]) (vs := [.ref a]) F hr hb hx I2 (va .nil) rz rfl l1 q2

/-- cls(e), the local name at i holding the class at C -/
def tMakeL (i : Nat) (C : Addr) (sp : Sp) (dvs : List V) (E : XK) (t : TA) : TE := fun σ H Q => σ[i]? = some (some (.ref C)) ∧ tMake C sp dvs E t σ H Q
theorem pe_makeL {i : Nat} {ds : List Value} {dvs : List V} {es : List Expr} {pp : Pos} (M : Mk X.K C f) (F : FnOk X.prog X.w X.K X.mg X.base CX0 k f fd ps sp) (hr : Room (k + 1) X.A)
    (hN : X.N[i]? = some x) (hv : Vis X.env.scope x) (hb : Binds X.K fd ps ds) (hd : Vals dvs ds) (hx : Passes CX0 X E) (ha : PA X (e :: es) t)
    (hdb : (x == ("__debug__" : Str)) = false := by decide) (hcd : (x == ("__classdict__" : Str)) = false := by decide)
    (he : starEach (e :: es) X.env = (false, eval e X.env) :: starEach es X.env := by rfl)
    (hpl : (backTo pos (starEach es X.env)).any (·.1) = false := by rfl) :
    PE X (.Call (.Name x pp) (e :: es) [] pos) (tMakeL i C sp dvs E t) := by
  constructor
  intro pins s σ H Q I h
  obtain ⟨hi, h⟩ := h
  apply wpAny_Call_Name_kw
  refine thn ((pe_var (pos := pp) hN hv hdb hcd).run pins s σ H (fun v H' => v = .ref C ∧ H' = H) I ⟨_, hi, rfl, rfl⟩) fun u s1 z => ?_
  obtain ⟨v, H', I1, rv, rfl, rfl⟩ := z
  cases (show u = Value.ref C from rv)
  apply PySem.W.callWith_K (h₀ := X.base) I.ok.mod.kin M.kp _ he hpl
  apply thn (ha.run pos pins s1 σ H' _ I1 h)
  rintro us s2 ⟨vs, H1, I2, r, q⟩
  refine ⟨I2.kIn, ?_⟩
  exact run_make M F hr hb hd hx I2 r q
end
end GX
/-! Data over the layer: what values stand for, whatever heap they stand in. -/
namespace GD
open PySem L2
open Evl (Ex)

inductive D where
  | non | bl (b : Bool) | int (i : Int) | str (x : Str)
  | lst (ds : List D) | tup (ds : List D) | ins (c : Nat) (ds : List D)

/-- own classes: where each stands, the names of its fields in the order they are stored -/
abbrev CT := Nat → Addr × List Str
def fsOf : List Str → List V → List (Str × V) → List (Str × V)
  | n :: ns, v :: vs, acc => fsOf ns vs (putF n v acc)
  | _, _, acc => acc

mutual
/-- v stands for d in G -/
inductive Rep (C : CT) (G : Hp) : D → V → Prop
  | non : Rep C G .non .non
  | bl (b : Bool) : Rep C G (.bl b) (.bl b)
  | int (i : Int) : Rep C G (.int i) (.int i)
  | str (x : Str) : Rep C G (.str x) (.str x)
  | lst {a : Addr} {vs : List V} {ds : List D} : G a = some (.lst vs) → RepL C G ds vs → Rep C G (.lst ds) (.ref a)
  | tup {a : Addr} {vs : List V} {ds : List D} : G a = some (.tup vs) → RepL C G ds vs → Rep C G (.tup ds) (.ref a)
  | ins {a dx : Addr} {vs : List V} {c : Nat} {ds : List D} : G a = some (.ins (C c).1 dx (fsOf (C c).2 vs [])) → RepL C G ds vs → ds.length = (C c).2.length → Rep C G (.ins c ds) (.ref a)
inductive RepL (C : CT) (G : Hp) : List D → List V → Prop
  | nil : RepL C G [] []
  | cons {d : D} {v : V} {ds : List D} {vs : List V} : Rep C G d v → RepL C G ds vs → RepL C G (d :: ds) (v :: vs)
end

section
variable {C : CT} {G G' : Hp}
mutual
theorem Rep.mono (e : Ex G G') : ∀ {d : D} {v : V}, Rep C G d v → Rep C G' d v
  | _, _, .non => .non
  | _, _, .bl b => .bl b
  | _, _, .int i => .int i
  | _, _, .str x => .str x
  | _, _, .lst h r => .lst (e _ _ h) (RepL.mono e r)
  | _, _, .tup h r => .tup (e _ _ h) (RepL.mono e r)
  | _, _, .ins h r l => .ins (e _ _ h) (RepL.mono e r) l
theorem RepL.mono (e : Ex G G') : ∀ {ds : List D} {vs : List V}, RepL C G ds vs → RepL C G' ds vs
  | _, _, .nil => .nil
  | _, _, .cons h r => .cons (Rep.mono e h) (RepL.mono e r)
end
theorem RepL.len : ∀ {ds : List D} {vs : List V}, RepL C G ds vs → vs.length = ds.length
  | _, _, .nil => rfl
  | _, _, .cons _ r => by simp [r.len]
theorem RepL.append : ∀ {ds es : List D} {vs ws : List V}, RepL C G ds vs → RepL C G es ws → RepL C G (ds ++ es) (vs ++ ws)
  | _, _, _, _, .nil, s => s
  | _, _, _, _, .cons h r, s => .cons h (r.append s)
theorem RepL.snoc {ds : List D} {vs : List V} {d : D} {v : V} (r : RepL C G ds vs) (h : Rep C G d v) : RepL C G (ds ++ [d]) (vs ++ [v]) := r.append (.cons h .nil)
theorem RepL.get : ∀ {ds : List D} {vs : List V} {i : Nat} {d : D}, RepL C G ds vs → ds[i]? = some d → ∃ v, vs[i]? = some v ∧ Rep C G d v
  | _, _, _, _, .nil, e => by simp at e
  | _, _, 0, _, .cons h _, e => by simp at e; subst e; exact ⟨_, rfl, h⟩
  | _, _, i + 1, _, .cons _ r, e => by
    obtain ⟨v, h1, h2⟩ := r.get (i := i) (by simpa using e)
    exact ⟨v, by simpa using h1, h2⟩
theorem RepL.getV : ∀ {ds : List D} {vs : List V} {i : Nat} {v : V}, RepL C G ds vs → vs[i]? = some v → ∃ d, ds[i]? = some d ∧ Rep C G d v
  | _, _, _, _, .nil, e => by simp at e
  | _, _, 0, _, .cons h _, e => by simp at e; subst e; exact ⟨_, rfl, h⟩
  | _, _, i + 1, _, .cons _ r, e => by
    obtain ⟨d, h1, h2⟩ := r.getV (i := i) (by simpa using e)
    exact ⟨d, by simpa using h1, h2⟩
theorem RepL.take : ∀ {ds : List D} {vs : List V} (n : Nat), RepL C G ds vs → RepL C G (ds.take n) (vs.take n)
  | _, _, 0, _ => .nil
  | _, _, _ + 1, .nil => .nil
  | _, _, n + 1, .cons h r => .cons h (r.take n)
theorem RepL.drop : ∀ {ds : List D} {vs : List V} (n : Nat), RepL C G ds vs → RepL C G (ds.drop n) (vs.drop n)
  | _, _, 0, r => r
  | _, _, _ + 1, .nil => .nil
  | _, _, n + 1, .cons _ r => r.drop n
theorem RepL.rev : ∀ {ds : List D} {vs : List V}, RepL C G ds vs → RepL C G ds.reverse vs.reverse
  | _, _, .nil => .nil
  | _, _, .cons h r => by
    rw [List.reverse_cons, List.reverse_cons]
    exact r.rev.snoc h
theorem RepL.rep {d : D} {v : V} (h : Rep C G d v) : ∀ n : Nat, RepL C G (List.replicate n d) (List.replicate n v)
  | 0 => .nil
  | n + 1 => .cons h (RepL.rep h n)
theorem RepL.ints : ∀ ns : List Int, RepL C G (ns.map D.int) (ns.map V.int)
  | [] => .nil
  | n :: ns => .cons (.int n) (RepL.ints ns)
theorem RepL.bls : ∀ ns : List Bool, RepL C G (ns.map D.bl) (ns.map V.bl)
  | [] => .nil
  | n :: ns => .cons (.bl n) (RepL.bls ns)
theorem RepL.of_bls : ∀ {ns : List Bool} {vs : List V}, RepL C G (ns.map D.bl) vs → vs = ns.map V.bl
  | [], _, .nil => rfl
  | n :: ns, _, .cons (.bl _) r => by rw [RepL.of_bls (ns := ns) r]; rfl
theorem RepL.of_ints : ∀ {ns : List Int} {vs : List V}, RepL C G (ns.map D.int) vs → vs = ns.map V.int
  | [], _, .nil => rfl
  | n :: ns, _, .cons (.int _) r => by rw [RepL.of_ints (ns := ns) r]; rfl
end

/-! ### loose data: containers anywhere in M, numbers and instances in G -/
mutual
inductive Lo (C : CT) (M G : Hp) : D → V → Prop
  | of {d : D} {v : V} : Rep C G d v → Lo C M G d v
  | lst {a : Addr} {vs : List V} {ds : List D} : M a = some (.lst vs) → LoL C M G ds vs → Lo C M G (.lst ds) (.ref a)
  | tup {a : Addr} {vs : List V} {ds : List D} : M a = some (.tup vs) → LoL C M G ds vs → Lo C M G (.tup ds) (.ref a)
inductive LoL (C : CT) (M G : Hp) : List D → List V → Prop
  | nil : LoL C M G [] []
  | cons {d : D} {v : V} {ds : List D} {vs : List V} : Lo C M G d v → LoL C M G ds vs → LoL C M G (d :: ds) (v :: vs)
end
def leaf : D → Bool
  | .lst _ => false
  | .tup _ => false
  | _ => true
/-- all but the pot -/
def mns (P : Option Addr) (H : Hp) : Hp := fun a => if some a = P then none else H a
section
variable {C : CT} {M M' G G' H : Hp}
mutual
theorem Lo.mono (m : Ex M M') (e : Ex G G') : ∀ {d : D} {v : V}, Lo C M G d v → Lo C M' G' d v
  | _, _, .of r => .of (r.mono e)
  | _, _, .lst h r => .lst (m _ _ h) (LoL.mono m e r)
  | _, _, .tup h r => .tup (m _ _ h) (LoL.mono m e r)
theorem LoL.mono (m : Ex M M') (e : Ex G G') : ∀ {ds : List D} {vs : List V}, LoL C M G ds vs → LoL C M' G' ds vs
  | _, _, .nil => .nil
  | _, _, .cons h r => .cons (Lo.mono m e h) (LoL.mono m e r)
end
mutual
theorem Lo.rep (m : Ex M H) (e : Ex G H) : ∀ {d : D} {v : V}, Lo C M G d v → Rep C H d v
  | _, _, .of r => r.mono e
  | _, _, .lst h r => .lst (m _ _ h) (LoL.rep m e r)
  | _, _, .tup h r => .tup (m _ _ h) (LoL.rep m e r)
theorem LoL.rep (m : Ex M H) (e : Ex G H) : ∀ {ds : List D} {vs : List V}, LoL C M G ds vs → RepL C H ds vs
  | _, _, .nil => .nil
  | _, _, .cons h r => .cons (Lo.rep m e h) (LoL.rep m e r)
end
/-- lists and tuples stand -/
def ExC (M M' : Hp) : Prop := ∀ (b : Addr) (o : HO), (∀ C dx fs, o ≠ .ins C dx fs) → M b = some o → M' b = some o
theorem ExC.l (k : ExC M M') {a : Addr} {vs : List V} (h : M a = some (.lst vs)) : M' a = some (.lst vs) := k _ _ (fun _ _ _ z => nomatch z) h
theorem ExC.t (k : ExC M M') {a : Addr} {vs : List V} (h : M a = some (.tup vs)) : M' a = some (.tup vs) := k _ _ (fun _ _ _ z => nomatch z) h
mutual
theorem Lo.keep (k : ExC M M') : ∀ {d : D} {v : V}, Lo C M G d v → Lo C M' G d v
  | _, _, .of r => .of r
  | _, _, .lst h r => .lst (k.l h) (LoL.keep k r)
  | _, _, .tup h r => .tup (k.t h) (LoL.keep k r)
theorem LoL.keep (k : ExC M M') : ∀ {ds : List D} {vs : List V}, LoL C M G ds vs → LoL C M' G ds vs
  | _, _, .nil => .nil
  | _, _, .cons h r => .cons (Lo.keep k h) (LoL.keep k r)
end
theorem LoL.of : ∀ {ds : List D} {vs : List V}, RepL C G ds vs → LoL C M G ds vs
  | _, _, .nil => .nil
  | _, _, .cons h r => .cons (.of h) (LoL.of r)
theorem Lo.leaf {d : D} {v : V} (h : Lo C M G d v) (l : leaf d = true) : Rep C G d v := by
  cases h with
  | of r => exact r
  | lst _ _ => cases l
  | tup _ _ => cases l
theorem LoL.leaf : ∀ {ds : List D} {vs : List V}, LoL C M G ds vs → (∀ d ∈ ds, GD.leaf d = true) → RepL C G ds vs
  | _, _, .nil, _ => .nil
  | _, _, .cons h r, l => .cons (h.leaf (l _ List.mem_cons_self)) (r.leaf fun d hd => l d (List.mem_cons_of_mem _ hd))
theorem LoL.len : ∀ {ds : List D} {vs : List V}, LoL C M G ds vs → vs.length = ds.length
  | _, _, .nil => rfl
  | _, _, .cons _ r => by simp [r.len]
theorem LoL.append : ∀ {ds es : List D} {vs ws : List V}, LoL C M G ds vs → LoL C M G es ws → LoL C M G (ds ++ es) (vs ++ ws)
  | _, _, _, _, .nil, s => s
  | _, _, _, _, .cons h r, s => .cons h (r.append s)
theorem LoL.get : ∀ {ds : List D} {vs : List V} {i : Nat} {d : D}, LoL C M G ds vs → ds[i]? = some d → ∃ v, vs[i]? = some v ∧ Lo C M G d v
  | _, _, _, _, .nil, e => by simp at e
  | _, _, 0, _, .cons h _, e => by simp at e; subst e; exact ⟨_, rfl, h⟩
  | _, _, i + 1, _, .cons _ r, e => by
    obtain ⟨v, h1, h2⟩ := r.get (i := i) (by simpa using e)
    exact ⟨v, by simpa using h1, h2⟩
theorem LoL.take : ∀ {ds : List D} {vs : List V} (n : Nat), LoL C M G ds vs → LoL C M G (ds.take n) (vs.take n)
  | _, _, 0, _ => .nil
  | _, _, _ + 1, .nil => .nil
  | _, _, n + 1, .cons h r => .cons h (r.take n)
theorem LoL.drop : ∀ {ds : List D} {vs : List V} (n : Nat), LoL C M G ds vs → LoL C M G (ds.drop n) (vs.drop n)
  | _, _, 0, r => r
  | _, _, _ + 1, .nil => .nil
  | _, _, n + 1, .cons _ r => r.drop n
/-- a list, wherever it stands -/
theorem Lo.lstI {ds : List D} {v : V} (m : Ex M H) (e : Ex G H) (h : Lo C M G (.lst ds) v) : ∃ a vs, v = .ref a ∧ H a = some (.lst vs) ∧ LoL C M G ds vs := by
  cases h with
  | of r => cases r with
    | lst h r => exact ⟨_, _, rfl, e _ _ h, LoL.of r⟩
  | lst h r => exact ⟨_, _, rfl, m _ _ h, r⟩
theorem Lo.tupI {ds : List D} {v : V} (m : Ex M H) (e : Ex G H) (h : Lo C M G (.tup ds) v) : ∃ a vs, v = .ref a ∧ H a = some (.tup vs) ∧ LoL C M G ds vs := by
  cases h with
  | of r => cases r with
    | tup h r => exact ⟨_, _, rfl, e _ _ h, LoL.of r⟩
  | tup h r => exact ⟨_, _, rfl, m _ _ h, r⟩
end

/-! ### what is around: own classes, what the pot holds, where it stands -/
structure Amb where
  C : CT
  W : HO → Prop
  P : Option Addr

/-- no tuple: it may change -/
def NT (o : HO) : Prop := ∀ vs, o ≠ .tup vs
/-- from (G, H) to (G2, H2): G is the part of the heap that data stand in -/
structure Stp (P : Option Addr) (W : HO → Prop) (G H G2 H2 : Hp) : Prop where
  g : Ex G G2
  h : Ex G2 H2
  k : ∀ a o, H a = some o → some a ≠ P → H2 a = some o
  f : ∀ a o, G a = none → H a = some o → NT o → G2 a = none
  p : ∀ a, P = some a → G2 a = none ∧ ∃ o, H2 a = some o ∧ W o ∧ NT o
abbrev Amb.St (A : Amb) := Stp A.P A.W
section
variable {P : Option Addr} {W : HO → Prop} {G H G2 H2 G3 H3 : Hp}
theorem Stp.trans (a : Stp P W G H G2 H2) (b : Stp P W G2 H2 G3 H3) : Stp P W G H G3 H3 := by
  refine ⟨a.g.trans b.g, b.h, fun x o h n => b.k x o (a.k x o h n) n, fun x o h1 h2 h3 => ?_, b.p⟩
  by_cases n : some x = P
  · exact (b.p x n.symm).1
  · exact b.f x o (a.f x o h1 h2 h3) (a.k x _ h2 n) h3
/-- nothing changed -/
def Has (P : Option Addr) (W : HO → Prop) (G H : Hp) : Prop := Ex G H ∧ ∀ a, P = some a → G a = none ∧ ∃ o, H a = some o ∧ W o ∧ NT o
theorem Has.refl (h : Has P W G H) : Stp P W G H G H := ⟨Ex.refl G, h.1, fun _ _ h _ => h, fun _ _ h _ _ => h, h.2⟩
theorem Stp.has (h : Stp P W G H G2 H2) : Has P W G2 H2 := ⟨h.h, h.p⟩
/-- a new object that stands for data -/
theorem Has.new (h : Has P W G H) {a : Addr} {o : HO} (n : H a = none) : Stp P W G H (upd G a o) (upd H a o) := by
  have gn : G a = none := by
    cases q : G a with
    | none => rfl
    | some u => have := h.1 a u q; rw [n] at this; cases this
  have pn : ∀ b, P = some b → b ≠ a := fun b e z => by
    obtain ⟨_, o', ho, _⟩ := h.2 b e
    rw [z, n] at ho; cases ho
  refine ⟨Ex.new gn, fun b u e => ?_, fun b u e _ => by rw [upd_ne (ne_of_none e n)]; exact e, fun b o' h1 h2 _ => by rw [upd_ne (ne_of_none h2 n)]; exact h1, fun b e => ?_⟩
  · by_cases hb : b = a
    · subst hb; rw [upd_same] at e ⊢; exact e
    · rw [upd_ne hb] at e ⊢; exact h.1 b u e
  · have := h.2 b e
    rw [upd_ne (pn b e), upd_ne (pn b e)]
    exact this
/-- the heap grew, not the data -/
theorem Has.grow (h : Has P W G H) (e : Ex H H2) : Stp P W G H G H2 :=
  ⟨Ex.refl G, h.1.trans e, fun a o q _ => e a o q, fun _ _ q _ _ => q, fun a q => let ⟨x, o, y, z⟩ := h.2 a q; ⟨x, o, e a o y, z⟩⟩
/-- a tuple that stands in the heap comes to the data -/
theorem Has.add (h : Has P W G H) (e : Ex H H2) {a : Addr} {ts : List V} (ho : H2 a = some (.tup ts)) : Stp P W G H (upd G a (.tup ts)) H2 := by
  have ag : ∀ u, G a = some u → u = .tup ts := fun u q => by
    have := e a u (h.1 a u q)
    rw [ho] at this
    exact (Option.some.inj this).symm
  refine ⟨fun b u q => ?_, fun b u q => ?_, fun b u q _ => e b u q, fun b o h1 h2 h3 => ?_, fun b q => ?_⟩
  · by_cases hb : b = a
    · subst hb; rw [upd_same, ag u q]
    · rw [upd_ne hb]; exact q
  · by_cases hb : b = a
    · subst hb; rw [upd_same] at q; cases q; exact ho
    · rw [upd_ne hb] at q; exact e b u (h.1 b u q)
  · have : b ≠ a := fun z => by
      subst z
      have := e b _ h2
      rw [ho] at this
      exact h3 ts (Option.some.inj this).symm
    rw [upd_ne this]; exact h1
  · obtain ⟨x, o', y, z, l⟩ := h.2 b q
    have : b ≠ a := fun w => by
      subst w
      have := e b _ y
      rw [ho] at this
      exact l ts (Option.some.inj this).symm
    refine ⟨by rw [upd_ne this]; exact x, o', e b _ y, z, l⟩
/-- what touches no pot, where there is one -/
theorem Stp.any (a : Stp none W G H G2 H2) (h : Has P W G H) : Stp P W G H G2 H2 := by
  refine ⟨a.g, a.h, fun x o q _ => a.k x o q (by simp), a.f, fun x e => ?_⟩
  obtain ⟨n, o, ho, w, l⟩ := h.2 x e
  exact ⟨a.f x o n ho l, o, a.k x o ho (by simp), w, l⟩
theorem Has.none (h : Ex G H) : Has none W G H := ⟨h, fun _ e => nomatch e⟩
end

/-! ### slots -/
/-- what a slot holds: data; a list of this def's own, that may still grow; the pot -/
inductive Sl where
  | val (d : D) | arg (d : D) | own (ds : List D) | ob (a dx : Addr) (c : Nat) (ds : List D) | pot
abbrev Ro := List (Option Sl)
structure EnvOk (A : Amb) (H0 G H : Hp) (ρ : Ro) (σ : L2.St) : Prop where
  len : σ.length = ρ.length
  val : ∀ (i : Nat) (d : D), ρ[i]? = some (some (Sl.val d)) → ∃ v, σ[i]? = some (some v) ∧ Rep A.C G d v
  own : ∀ (i : Nat) (ds : List D), ρ[i]? = some (some (Sl.own ds)) → ∃ a vs, σ[i]? = some (some (.ref a)) ∧ H0 a = none ∧ G a = none ∧ H a = some (.lst vs) ∧ RepL A.C G ds vs
  inj : ∀ (i j : Nat) (a : Addr) (ds es : List D), ρ[i]? = some (some (Sl.own ds)) → ρ[j]? = some (some (Sl.own es)) → σ[i]? = some (some (.ref a)) → σ[j]? = some (some (.ref a)) → i = j
  arg : ∀ (i : Nat) (d : D), ρ[i]? = some (some (Sl.arg d)) → ∃ v, σ[i]? = some (some v) ∧ Lo A.C (mns A.P H0) G d v
  ob : ∀ (i : Nat) (a dx : Addr) (c : Nat) (ds : List D), ρ[i]? = some (some (Sl.ob a dx c ds)) → i = 0 ∧ ∃ vs, σ[i]? = some (some (.ref a)) ∧ H0 a = none ∧ G a = none ∧ H a = some (.ins (A.C c).1 dx (fsOf ((A.C c).2.take ds.length) vs [])) ∧ RepL A.C G ds vs
  pot : ∀ (i : Nat), ρ[i]? = some (some Sl.pot) → ∃ a, A.P = some a ∧ σ[i]? = some (some (.ref a))
/-- here: from the entry (G0, H0) on -/
structure Here (A : Amb) (G0 H0 : Hp) (ρ : Ro) (σ : L2.St) (G H : Hp) : Prop where
  st : A.St G0 H0 G H
  env : EnvOk A H0 G H ρ σ
  ent : Has A.P A.W G0 H0
section
variable {A : Amb} {G0 H0 G H G2 H2 : Hp} {ρ : Ro} {σ : L2.St}
theorem Here.has (h : Here A G0 H0 ρ σ G H) : Has A.P A.W G H := h.st.has
theorem Here.step (h : Here A G0 H0 ρ σ G H) (s : A.St G H G2 H2) : Here A G0 H0 ρ σ G2 H2 := by
  have e := h.env
  refine ⟨h.st.trans s, ⟨e.len, fun i d q => ?_, fun i ds q => ?_, e.inj, fun i d q => ?_, fun i a dx c ds q => ?_, e.pot⟩, h.ent⟩
  · obtain ⟨v, h1, h2⟩ := e.val i d q
    exact ⟨v, h1, h2.mono s.g⟩
  · obtain ⟨a, vs, h1, h2, h3, h4, h5⟩ := e.own i ds q
    refine ⟨a, vs, h1, h2, s.f a _ h3 h4 (fun _ z => nomatch z), s.k a _ h4 fun z => ?_, h5.mono s.g⟩
    obtain ⟨_, o, ho, _⟩ := h.ent.2 a z.symm
    rw [h2] at ho; cases ho
  · obtain ⟨v, h1, h2⟩ := e.arg i d q
    exact ⟨v, h1, h2.mono (Ex.refl _) s.g⟩
  · obtain ⟨i0, vs, h1, h2, h3, h4, h5⟩ := e.ob i a dx c ds q
    refine ⟨i0, vs, h1, h2, s.f a _ h3 h4 (fun _ z => nomatch z), s.k a _ h4 fun z => ?_, h5.mono s.g⟩
    obtain ⟨_, o, ho, _⟩ := h.ent.2 a z.symm
    rw [h2] at ho; cases ho
/-- a slot gets data -/
theorem Here.set (h : Here A G0 H0 ρ σ G H) (i : Nat) {d : D} {v : V} (r : Rep A.C G d v) : Here A G0 H0 (ρ.set i (some (Sl.val d))) (σ.set i (some v)) G H := by
  have e := h.env
  have key : ∀ {j : Nat} {s : Sl}, j ≠ i → (ρ.set i (some (Sl.val d)))[j]? = some (some s) → ρ[j]? = some (some s) := fun n q => by
    rw [List.getElem?_set_ne (Ne.symm n)] at q; exact q
  have keyσ : ∀ {j : Nat}, j ≠ i → (σ.set i (some v))[j]? = σ[j]? := fun n => List.getElem?_set_ne (Ne.symm n)
  have at_ : ∀ {s : Sl}, (ρ.set i (some (Sl.val d)))[i]? = some (some s) → s = .val d ∧ i < ρ.length := fun {s} q => by
    by_cases hi : i < ρ.length
    · rw [List.getElem?_set_self hi] at q; cases q; exact ⟨rfl, hi⟩
    · rw [List.getElem?_eq_none (by rw [List.length_set]; omega)] at q; cases q
  refine ⟨h.st, ⟨by rw [List.length_set, List.length_set]; exact e.len, fun j d' q => ?_, fun j ds q => ?_, fun j k a ds es q1 q2 q3 q4 => ?_, fun j d' q => ?_, fun j a dx c ds q => ?_, fun j q => ?_⟩, h.ent⟩
  · by_cases hj : j = i
    · subst hj
      obtain ⟨z, hi⟩ := at_ q
      cases z
      exact ⟨v, List.getElem?_set_self (by rw [e.len]; exact hi), r⟩
    · obtain ⟨w, h1, h2⟩ := e.val j d' (key hj q)
      exact ⟨w, (keyσ hj).trans h1, h2⟩
  · have hj : j ≠ i := fun z => by subst z; exact nomatch (at_ q).1
    obtain ⟨a, vs, h1, h2⟩ := e.own j ds (key hj q)
    exact ⟨a, vs, (keyσ hj).trans h1, h2⟩
  · have hj : j ≠ i := fun z => by subst z; exact nomatch (at_ q1).1
    have hk : k ≠ i := fun z => by subst z; exact nomatch (at_ q2).1
    rw [keyσ hj] at q3
    rw [keyσ hk] at q4
    exact e.inj j k a ds es (key hj q1) (key hk q2) q3 q4
  · by_cases hj : j = i
    · subst hj
      obtain ⟨z, hi⟩ := at_ q
      cases z
    · obtain ⟨w, h1, h2⟩ := e.arg j d' (key hj q)
      exact ⟨w, (keyσ hj).trans h1, h2⟩
  · have hj : j ≠ i := fun z => by subst z; exact nomatch (at_ q).1
    obtain ⟨i0, vs, h1, h2⟩ := e.ob j a dx c ds (key hj q)
    exact ⟨i0, vs, (keyσ hj).trans h1, h2⟩
  · have hj : j ≠ i := fun z => by subst z; exact nomatch (at_ q).1
    obtain ⟨a, h1, h2⟩ := e.pot j (key hj q)
    exact ⟨a, h1, (keyσ hj).trans h2⟩
/-- a slot gets loose data -/
theorem Here.setA (h : Here A G0 H0 ρ σ G H) (i : Nat) {d : D} {v : V} (r : Lo A.C (mns A.P H0) G d v) : Here A G0 H0 (ρ.set i (some (Sl.arg d))) (σ.set i (some v)) G H := by
  have e := h.env
  have key : ∀ {j : Nat} {s : Sl}, j ≠ i → (ρ.set i (some (Sl.arg d)))[j]? = some (some s) → ρ[j]? = some (some s) := fun n q => by
    rw [List.getElem?_set_ne (Ne.symm n)] at q; exact q
  have keyσ : ∀ {j : Nat}, j ≠ i → (σ.set i (some v))[j]? = σ[j]? := fun n => List.getElem?_set_ne (Ne.symm n)
  have at_ : ∀ {s : Sl}, (ρ.set i (some (Sl.arg d)))[i]? = some (some s) → s = .arg d ∧ i < ρ.length := fun {s} q => by
    by_cases hi : i < ρ.length
    · rw [List.getElem?_set_self hi] at q; cases q; exact ⟨rfl, hi⟩
    · rw [List.getElem?_eq_none (by rw [List.length_set]; omega)] at q; cases q
  refine ⟨h.st, ⟨by rw [List.length_set, List.length_set]; exact e.len, fun j d' q => ?_, fun j ds q => ?_, fun j k a ds es q1 q2 q3 q4 => ?_, fun j d' q => ?_, fun j a dx c ds q => ?_, fun j q => ?_⟩, h.ent⟩
  · by_cases hj : j = i
    · subst hj
      obtain ⟨z, hi⟩ := at_ q
      cases z
    · obtain ⟨w, h1, h2⟩ := e.val j d' (key hj q)
      exact ⟨w, (keyσ hj).trans h1, h2⟩
  · have hj : j ≠ i := fun z => by subst z; exact nomatch (at_ q).1
    obtain ⟨a, vs, h1, h2⟩ := e.own j ds (key hj q)
    exact ⟨a, vs, (keyσ hj).trans h1, h2⟩
  · have hj : j ≠ i := fun z => by subst z; exact nomatch (at_ q1).1
    have hk : k ≠ i := fun z => by subst z; exact nomatch (at_ q2).1
    rw [keyσ hj] at q3
    rw [keyσ hk] at q4
    exact e.inj j k a ds es (key hj q1) (key hk q2) q3 q4
  · by_cases hj : j = i
    · subst hj
      obtain ⟨z, hi⟩ := at_ q
      cases z
      exact ⟨v, List.getElem?_set_self (by rw [e.len]; exact hi), r⟩
    · obtain ⟨w, h1, h2⟩ := e.arg j d' (key hj q)
      exact ⟨w, (keyσ hj).trans h1, h2⟩
  · have hj : j ≠ i := fun z => by subst z; exact nomatch (at_ q).1
    obtain ⟨i0, vs, h1, h2⟩ := e.ob j a dx c ds (key hj q)
    exact ⟨i0, vs, (keyσ hj).trans h1, h2⟩
  · have hj : j ≠ i := fun z => by subst z; exact nomatch (at_ q).1
    obtain ⟨a, h1, h2⟩ := e.pot j (key hj q)
    exact ⟨a, h1, (keyσ hj).trans h2⟩
/-- a slot is forgotten -/
theorem Here.drop (h : Here A G0 H0 ρ σ G H) (i : Nat) (x : Option V) : Here A G0 H0 (ρ.set i none) (σ.set i x) G H := by
  have e := h.env
  have key : ∀ {j : Nat} {s : Sl}, (ρ.set i none)[j]? = some (some s) → j ≠ i ∧ ρ[j]? = some (some s) := fun {j s} q => by
    by_cases hj : j = i
    · subst hj
      by_cases hi : j < ρ.length
      · rw [List.getElem?_set_self hi] at q; cases q
      · rw [List.getElem?_eq_none (by rw [List.length_set]; omega)] at q; cases q
    · rw [List.getElem?_set_ne (Ne.symm hj)] at q; exact ⟨hj, q⟩
  have keyσ : ∀ {j : Nat}, j ≠ i → (σ.set i x)[j]? = σ[j]? := fun n => List.getElem?_set_ne (Ne.symm n)
  refine ⟨h.st, ⟨by rw [List.length_set, List.length_set]; exact e.len, fun j d' q => ?_, fun j ds q => ?_, fun j k a ds es q1 q2 q3 q4 => ?_, fun j d' q => ?_, fun j a dx c ds q => ?_, fun j q => ?_⟩, h.ent⟩
  · obtain ⟨n, q⟩ := key q
    obtain ⟨w, h1, h2⟩ := e.val j d' q
    exact ⟨w, (keyσ n).trans h1, h2⟩
  · obtain ⟨n, q⟩ := key q
    obtain ⟨a, vs, h1, h2⟩ := e.own j ds q
    exact ⟨a, vs, (keyσ n).trans h1, h2⟩
  · obtain ⟨n1, q1⟩ := key q1
    obtain ⟨n2, q2⟩ := key q2
    rw [keyσ n1] at q3
    rw [keyσ n2] at q4
    exact e.inj j k a ds es q1 q2 q3 q4
  · obtain ⟨n, q⟩ := key q
    obtain ⟨w, h1, h2⟩ := e.arg j d' q
    exact ⟨w, (keyσ n).trans h1, h2⟩
  · obtain ⟨n, q⟩ := key q
    obtain ⟨i0, vs, h1, h2⟩ := e.ob j a dx c ds q
    exact ⟨i0, vs, (keyσ n).trans h1, h2⟩
  · obtain ⟨n, q⟩ := key q
    obtain ⟨a, h1, h2⟩ := e.pot j q
    exact ⟨a, h1, (keyσ n).trans h2⟩
theorem Here.mns (h : Here A G0 H0 ρ σ G H) : Ex (GD.mns A.P H0) (GD.mns A.P H) := fun a o q => by
  unfold GD.mns at q ⊢
  split at q
  · cases q
  · rename_i n
    rw [if_neg n]
    exact h.st.k a o q n
theorem mns_ex {P : Option Addr} {H : Hp} : Ex (GD.mns P H) H := fun a o q => by
  unfold GD.mns at q
  split at q
  · cases q
  · exact q
theorem Stp.mns {P : Option Addr} {W : HO → Prop} (s : Stp P W G H G2 H2) : Ex (GD.mns P H) (GD.mns P H2) := fun a o q => by
  unfold GD.mns at q ⊢
  split at q
  · cases q
  · rename_i n
    rw [if_neg n]
    exact s.k a o q n
theorem Stp.lo {P : Option Addr} {W : HO → Prop} {C : CT} {d : D} {v : V} (s : Stp P W G H G2 H2) (h : Lo C (GD.mns P H) G d v) : Lo C (GD.mns P H2) G2 d v := h.mono s.mns s.g
theorem Stp.loL {P : Option Addr} {W : HO → Prop} {C : CT} {ds : List D} {vs : List V} (s : Stp P W G H G2 H2) (h : LoL C (GD.mns P H) G ds vs) : LoL C (GD.mns P H2) G2 ds vs := h.mono s.mns s.g
end
end GD
/-! Expressions over data. -/
namespace GD
open PySem L2
open Evl (Ex)

def DE (A : Amb) (ρ : Ro) (te : TE) (R : D → Prop) : Prop := ∀ G0 H0 σ G H (Q : VK), Here A G0 H0 ρ σ G H →
  (∀ d v G2 H2, R d → Rep A.C G2 d v → A.St G H G2 H2 → Q v H2) → te σ H Q
def DT (A : Amb) (ρ : Ro) (tt : TT) (R : Bool → Prop) : Prop := ∀ G0 H0 σ G H (Q : Bool → Hp → Prop), Here A G0 H0 ρ σ G H →
  (∀ b G2 H2, R b → A.St G H G2 H2 → Q b H2) → tt σ H Q
def DA (A : Amb) (ρ : Ro) (ta : TA) (R : List D → Prop) : Prop := ∀ G0 H0 σ G H (Q : List V → Hp → Prop), Here A G0 H0 ρ σ G H →
  (∀ ds vs G2 H2, R ds → RepL A.C G2 ds vs → A.St G H G2 H2 → Q vs H2) → ta σ H Q
/-- a two-place operation on data; a one-place one; a call of a built-in -/
def OpD (A : Amb) (r : R2) (x y : D) (R : D → Prop) : Prop := ∀ G H v w (Q : VK), Has A.P A.W G H → Rep A.C G x v → Rep A.C G y w →
  (∀ z u G2 H2, R z → Rep A.C G2 z u → A.St G H G2 H2 → Q u H2) → r v w H Q
def UnD (A : Amb) (r : V → Hp → VK → Prop) (x : D) (R : D → Prop) : Prop := ∀ G H v (Q : VK), Has A.P A.W G H → Rep A.C G x v →
  (∀ z u G2 H2, R z → Rep A.C G2 z u → A.St G H G2 H2 → Q u H2) → r v H Q
def CaD (A : Amb) (r : List V → Hp → VK → Prop) (xs : List D) (R : D → Prop) : Prop := ∀ G H vs (Q : VK), Has A.P A.W G H → RepL A.C G xs vs →
  (∀ z u G2 H2, R z → Rep A.C G2 z u → A.St G H G2 H2 → Q u H2) → r vs H Q

section
variable {A : Amb} {ρ : Ro} {te ta tb : TE} {tt tu : TT} {tl : TA} {R Ra R1 : D → Prop} {x y z d : D}
theorem DE.imp (h : DE A ρ te R) (k : ∀ d, R d → R1 d) : DE A ρ te R1 := fun G0 H0 σ G H Q e q => h G0 H0 σ G H Q e fun d v G2 H2 r => q d v G2 H2 (k d r)
theorem DT.imp {S S1 : Bool → Prop} (h : DT A ρ tt S) (k : ∀ b, S b → S1 b) : DT A ρ tt S1 := fun G0 H0 σ G H Q e q => h G0 H0 σ G H Q e fun b G2 H2 r => q b G2 H2 (k b r)
theorem DA.imp {S S1 : List D → Prop} (h : DA A ρ tl S) (k : ∀ b, S b → S1 b) : DA A ρ tl S1 := fun G0 H0 σ G H Q e q => h G0 H0 σ G H Q e fun b v G2 H2 r => q b v G2 H2 (k b r)
theorem de_var {i : Nat} (h : ρ[i]? = some (some (Sl.val d))) : DE A ρ (tVar i) (· = d) := fun G0 H0 σ G H Q e q => by
  obtain ⟨v, h1, h2⟩ := e.env.val i d h
  exact ⟨v, h1, q d v G H rfl h2 e.has.refl⟩
theorem de_int {i : Int} : DE A ρ (tC (.int i)) (· = .int i) := fun G0 H0 σ G H Q e q => q _ _ G H rfl (.int i) e.has.refl
theorem de_bl {b : Bool} : DE A ρ (tC (.bl b)) (· = .bl b) := fun G0 H0 σ G H Q e q => q _ _ G H rfl (.bl b) e.has.refl
theorem de_str {s : Str} : DE A ρ (tC (.str s)) (· = .str s) := fun G0 H0 σ G H Q e q => q _ _ G H rfl (.str s) e.has.refl
theorem de_non : DE A ρ (tC .non) (· = .non) := fun G0 H0 σ G H Q e q => q _ _ G H rfl .non e.has.refl
theorem de_op {r : R2} (ha : DE A ρ ta Ra) (hb : ∀ x, Ra x → DE A ρ tb (fun y => OpD A r x y R)) : DE A ρ (tOp r ta tb) R := fun G0 H0 σ G H Q e q => by
  refine ha G0 H0 σ G H _ e fun x v G2 H2 rx hv s2 => ?_
  refine hb x rx G0 H0 σ G2 H2 _ (e.step s2) fun y w G3 H3 ry hw s3 => ?_
  exact ry G3 H3 v w Q s3.has (hv.mono s3.g) hw fun z u G4 H4 rz hu s4 => q z u G4 H4 rz hu ((s2.trans s3).trans s4)
theorem de_un {r : V → Hp → VK → Prop} (ha : DE A ρ ta fun x => UnD A r x R) : DE A ρ (tUn r ta) R := fun G0 H0 σ G H Q e q => by
  refine ha G0 H0 σ G H _ e fun x v G2 H2 rx hv s2 => ?_
  exact rx G2 H2 v Q s2.has hv fun z u G4 H4 rz hu s4 => q z u G4 H4 rz hu (s2.trans s4)
theorem de_cb {r : List V → Hp → VK → Prop} (ha : DA A ρ tl fun xs => CaD A r xs R) : DE A ρ (tCB r tl) R := fun G0 H0 σ G H Q e q => by
  refine ha G0 H0 σ G H _ e fun x v G2 H2 rx hv s2 => ?_
  exact rx G2 H2 v Q s2.has hv fun z u G4 H4 rz hu s4 => q z u G4 H4 rz hu (s2.trans s4)
theorem da_nil {S : List D → Prop} (h : S []) : DA A ρ tNil S := fun G0 H0 σ G H Q e q => q [] [] G H h .nil e.has.refl
theorem da_cons {tr : TA} {S : List D → Prop} (ha : DE A ρ ta Ra) (hb : ∀ x, Ra x → DA A ρ tr fun xs => S (x :: xs)) : DA A ρ (tCons ta tr) S := fun G0 H0 σ G H Q e q => by
  refine ha G0 H0 σ G H _ e fun x v G2 H2 rx hv s2 => ?_
  exact hb x rx G0 H0 σ G2 H2 _ (e.step s2) fun xs ws G3 H3 ry hw s3 => q (x :: xs) (v :: ws) G3 H3 ry (.cons (hv.mono s3.g) hw) (s2.trans s3)
theorem da_one {S : List D → Prop} (ha : DE A ρ ta fun x => S [x]) : DA A ρ (tCons ta tNil) S := da_cons ha fun x h => da_nil h
/-- tests -/
theorem dt_test {S : Bool → Prop} (h : DE A ρ te fun d => ∃ b, d = .bl b ∧ S b) : DT A ρ (tTest te) S := fun G0 H0 σ G H Q e q => by
  refine h G0 H0 σ G H _ e fun x v G2 H2 rx hv s2 => ?_
  obtain ⟨b, rfl, sb⟩ := rx
  cases hv
  exact ⟨b, rfl, q b G2 H2 sb s2⟩
theorem dt_B {S : Bool → Prop} (h : DE A ρ te fun d => ∃ b, d = .bl b ∧ S b) : DT A ρ (tB te) S := fun G0 H0 σ G H Q e q => by
  refine h G0 H0 σ G H _ e fun x v G2 H2 rx hv s2 => ?_
  obtain ⟨b, rfl, sb⟩ := rx
  cases hv
  exact ⟨b, rfl, q b G2 H2 sb s2⟩
theorem dt_and {S : Bool → Prop} (h1 : DT A ρ tt fun a => (a = false → S false) ∧ (a = true → DT A ρ tu S)) : DT A ρ (tAnd tt tu) S := fun G0 H0 σ G H Q e q => by
  refine h1 G0 H0 σ G H _ e fun a G2 H2 ha s2 => ?_
  cases a with
  | true => exact ha.2 rfl G0 H0 σ G2 H2 Q (e.step s2) fun b G3 H3 hb s3 => q b G3 H3 hb (s2.trans s3)
  | false => exact q false G2 H2 (ha.1 rfl) s2
theorem dt_or {S : Bool → Prop} (h1 : DT A ρ tt fun a => (a = true → S true) ∧ (a = false → DT A ρ tu S)) : DT A ρ (tOr tt tu) S := fun G0 H0 σ G H Q e q => by
  refine h1 G0 H0 σ G H _ e fun a G2 H2 ha s2 => ?_
  cases a with
  | false => exact ha.2 rfl G0 H0 σ G2 H2 Q (e.step s2) fun b G3 H3 hb s3 => q b G3 H3 hb (s2.trans s3)
  | true => exact q true G2 H2 (ha.1 rfl) s2
theorem dt_not {S : Bool → Prop} (h1 : DT A ρ tt fun a => S (!a)) : DT A ρ (tNot tt) S := fun G0 H0 σ G H Q e q =>
  h1 G0 H0 σ G H _ e fun a G2 H2 ha s2 => q (!a) G2 H2 ha s2
theorem de_andV (h1 : DE A ρ ta fun x => ∃ a, x = .bl a ∧ (a = false → R (.bl false)) ∧ (a = true → DE A ρ tb R)) : DE A ρ (tAndV ta tb) R := fun G0 H0 σ G H Q e q => by
  refine h1 G0 H0 σ G H _ e fun x v G2 H2 hx hv s2 => ?_
  obtain ⟨a, rfl, ha⟩ := hx
  cases hv
  refine ⟨a, rfl, ?_⟩
  cases a with
  | true => exact ha.2 rfl G0 H0 σ G2 H2 Q (e.step s2) fun d v G3 H3 hb r s3 => q d v G3 H3 hb r (s2.trans s3)
  | false => exact q _ _ G2 H2 (ha.1 rfl) (.bl false) s2
theorem de_orV (h1 : DE A ρ ta fun x => ∃ a, x = .bl a ∧ (a = true → R (.bl true)) ∧ (a = false → DE A ρ tb R)) : DE A ρ (tOrV ta tb) R := fun G0 H0 σ G H Q e q => by
  refine h1 G0 H0 σ G H _ e fun x v G2 H2 hx hv s2 => ?_
  obtain ⟨a, rfl, ha⟩ := hx
  cases hv
  refine ⟨a, rfl, ?_⟩
  cases a with
  | false => exact ha.2 rfl G0 H0 σ G2 H2 Q (e.step s2) fun d v G3 H3 hb r s3 => q d v G3 H3 hb r (s2.trans s3)
  | true => exact q _ _ G2 H2 (ha.1 rfl) (.bl true) s2
theorem de_notV (h1 : DE A ρ ta fun x => ∃ a, x = .bl a ∧ R (.bl (!a))) : DE A ρ (tNotV ta) R := fun G0 H0 σ G H Q e q => by
  refine h1 G0 H0 σ G H _ e fun x v G2 H2 hx hv s2 => ?_
  obtain ⟨a, rfl, ha⟩ := hx
  cases hv
  exact ⟨a, rfl, q _ _ G2 H2 ha (.bl _) s2⟩
theorem de_if (h : DT A ρ tt fun b => (b = true → DE A ρ ta R) ∧ (b = false → DE A ρ tb R)) : DE A ρ (tIf tt ta tb) R := fun G0 H0 σ G H Q e q => by
  refine h G0 H0 σ G H _ e fun b G2 H2 hb s2 => ?_
  cases b with
  | true => exact hb.1 rfl G0 H0 σ G2 H2 Q (e.step s2) fun d v G3 H3 hb r s3 => q d v G3 H3 hb r (s2.trans s3)
  | false => exact hb.2 rfl G0 H0 σ G2 H2 Q (e.step s2) fun d v G3 H3 hb r s3 => q d v G3 H3 hb r (s2.trans s3)
/-- displays -/
theorem de_lst (h : DA A ρ tl fun ds => ds.length ≤ sizeLine ∧ R (.lst ds)) : DE A ρ (tLst tl) R := fun G0 H0 σ G H Q e q => by
  refine h G0 H0 σ G H _ e fun ds vs G2 H2 hd r s2 => ⟨by rw [r.len]; exact hd.1, fun p np => ?_⟩
  have s3 := s2.has.new (o := .lst vs) np
  exact q _ _ _ _ hd.2 (.lst upd_same (r.mono s3.g)) (s2.trans s3)
theorem de_tup (h : DA A ρ tl fun ds => ds.length ≤ sizeLine ∧ R (.tup ds)) : DE A ρ (tTup tl) R := fun G0 H0 σ G H Q e q => by
  refine h G0 H0 σ G H _ e fun ds vs G2 H2 hd r s2 => ⟨by rw [r.len]; exact hd.1, fun p np => ?_⟩
  have s3 := s2.has.new (o := .tup vs) np
  exact q _ _ _ _ hd.2 (.tup upd_same (r.mono s3.g)) (s2.trans s3)

/-! ### operations -/
theorem od_I {C : Int → Int → Prop} {g : Int → Int → V} {i j : Int} {z : D} (hc : C i j) (hz : ∀ G, Rep A.C G z (g i j)) (hr : R z) : OpD A (rI C g) (.int i) (.int j) R := fun G H v w Q hs hv hw q => by
  cases hv; cases hw
  exact ⟨i, j, rfl, rfl, hc, q z _ G H hr (hz G) hs.refl⟩
theorem od_I0 {g : Int → Int → V} {i j : Int} {z : D} (hz : ∀ G, Rep A.C G z (g i j)) (hr : R z) : OpD A (rI0 g) (.int i) (.int j) R := fun G H v w Q hs hv hw q => by
  cases hv; cases hw
  exact ⟨i, j, rfl, rfl, q z _ G H hr (hz G) hs.refl⟩
theorem od_orL {r r' : R2} (h : OpD A r x y R) : OpD A (fun v w H Q => r v w H Q ∨ r' v w H Q) x y R := fun G H v w Q hs hv hw q => .inl (h G H v w Q hs hv hw q)
theorem od_orR {r r' : R2} (h : OpD A r' x y R) : OpD A (fun v w H Q => r v w H Q ∨ r' v w H Q) x y R := fun G H v w Q hs hv hw q => .inr (h G H v w Q hs hv hw q)
/-- scalars of one kind -/
def scD : D → D → Option Bool
  | .non, .non => some true
  | .bl a, .bl b => some (a == b)
  | .int a, .int b => some (a == b)
  | .str a, .str b => some (decide (a = b))
  | _, _ => none
theorem scD_V {G : Hp} {C : CT} {v w : V} {b : Bool} (hv : Rep C G x v) (hw : Rep C G y w) (h : scD x y = some b) : scal v w = true ∧ decide (v = w) = b := by
  cases hv <;> cases hw <;> first | cases h | skip
  · exact ⟨rfl, by simp⟩
  · refine ⟨rfl, ?_⟩
    rw [Bool.eq_iff_iff]; simp
  · refine ⟨rfl, ?_⟩
    rw [Bool.eq_iff_iff]; simp
  · refine ⟨rfl, ?_⟩
    rw [Bool.eq_iff_iff]; simp
theorem od_eq {b : Bool} (h : scD x y = some b) (hr : R (.bl b)) : OpD A rEq x y R := fun G H v w Q hs hv hw q => by
  obtain ⟨h1, h2⟩ := scD_V hv hw h
  refine ⟨h1, ?_⟩
  rw [h2]
  exact q _ _ G H hr (.bl b) hs.refl
theorem od_ne {b : Bool} (h : scD x y = some b) (hr : R (.bl (!b))) : OpD A rNe x y R := fun G H v w Q hs hv hw q => by
  obtain ⟨h1, h2⟩ := scD_V hv hw h
  refine ⟨h1, ?_⟩
  rw [h2]
  exact q _ _ G H hr (.bl _) hs.refl
theorem od_ixL {K : PySem.W.Frag} {ds : List D} {i : Int} {j : Nat} {e : D} (hi : ixN ds.length i = some j) (hj : ds[j]? = some e) (hr : R e) : OpD A (rIxL K) (.lst ds) (.int i) R := fun G H v w Q hs hv hw q => by
  cases hv with
  | lst h1 r =>
    cases hw
    obtain ⟨u, h2, h3⟩ := r.get hj
    refine ⟨_, _, i, u, rfl, rfl, SqL.of (hs.1 _ _ h1), ?_, q e u G H hr h3 hs.refl⟩
    unfold atI
    rw [r.len, hi]
    exact h2
theorem od_ixT {K : PySem.W.Frag} {ds : List D} {i : Int} {j : Nat} {e : D} (hi : ixN ds.length i = some j) (hj : ds[j]? = some e) (hr : R e) : OpD A (rIxT K) (.tup ds) (.int i) R := fun G H v w Q hs hv hw q => by
  cases hv with
  | tup h1 r =>
    cases hw
    obtain ⟨u, h2, h3⟩ := r.get hj
    refine ⟨_, _, i, u, rfl, rfl, SqT.of (hs.1 _ _ h1), ?_, q e u G H hr h3 hs.refl⟩
    unfold atI
    rw [r.len, hi]
    exact h2
theorem ixN_nat {n j : Nat} (h : j < n) : ixN n (j : Int) = some j := by
  unfold ixN
  rw [if_pos (by omega), if_pos (by omega)]
  simp
end

/-! ### loose expressions -/
def DL (A : Amb) (ρ : Ro) (te : TE) (R : D → Prop) : Prop := ∀ G0 H0 σ G H (Q : VK), Here A G0 H0 ρ σ G H →
  (∀ d v G2 H2, R d → Lo A.C (mns A.P H2) G2 d v → A.St G H G2 H2 → Q v H2) → te σ H Q
/-- loose, and as it stood at the entry -/
def DM (A : Amb) (ρ : Ro) (te : TE) (R : D → Prop) : Prop := ∀ G0 H0 σ G H (Q : VK), Here A G0 H0 ρ σ G H →
  (∀ d v G2 H2, R d → Lo A.C (mns A.P H0) G2 d v → A.St G H G2 H2 → Q v H2) → te σ H Q
def DLA (A : Amb) (ρ : Ro) (ta : TA) (R : List D → Prop) : Prop := ∀ G0 H0 σ G H (Q : List V → Hp → Prop), Here A G0 H0 ρ σ G H →
  (∀ ds vs G2 H2, R ds → LoL A.C (mns A.P H2) G2 ds vs → A.St G H G2 H2 → Q vs H2) → ta σ H Q
def OpL (A : Amb) (r : R2) (x y : D) (R : D → Prop) : Prop := ∀ G H v w (Q : VK), Has A.P A.W G H → Lo A.C (mns A.P H) G x v → Lo A.C (mns A.P H) G y w →
  (∀ z u G2 H2, R z → Lo A.C (mns A.P H2) G2 z u → A.St G H G2 H2 → Q u H2) → r v w H Q
def CaL (A : Amb) (r : List V → Hp → VK → Prop) (xs : List D) (R : D → Prop) : Prop := ∀ G H vs (Q : VK), Has A.P A.W G H → LoL A.C (mns A.P H) G xs vs →
  (∀ z u G2 H2, R z → Lo A.C (mns A.P H2) G2 z u → A.St G H G2 H2 → Q u H2) → r vs H Q
def sca : D → Bool
  | .non => true
  | .bl _ => true
  | .int _ => true
  | .str _ => true
  | _ => false
section
variable {A : Amb} {ρ : Ro} {te ta tb : TE} {tt tu : TT} {tl : TA} {R Ra R1 : D → Prop} {x y z d : D} {C : CT} {G H G2 H2 : Hp}
theorem DL.imp (h : DL A ρ te R) (k : ∀ d, R d → R1 d) : DL A ρ te R1 := fun G0 H0 σ G H Q e q => h G0 H0 σ G H Q e fun d v G2 H2 r => q d v G2 H2 (k d r)
theorem DLA.imp {S S1 : List D → Prop} (h : DLA A ρ tl S) (k : ∀ b, S b → S1 b) : DLA A ρ tl S1 := fun G0 H0 σ G H Q e q => h G0 H0 σ G H Q e fun b v G2 H2 r => q b v G2 H2 (k b r)
theorem dl_de (h : DE A ρ te R) : DL A ρ te R := fun G0 H0 σ G H Q e q => h G0 H0 σ G H Q e fun d v G2 H2 r rv s => q d v G2 H2 r (.of rv) s
theorem de_dl (h : DL A ρ te fun d => leaf d = true ∧ R d) : DE A ρ te R := fun G0 H0 σ G H Q e q => h G0 H0 σ G H Q e fun d v G2 H2 r rv s => q d v G2 H2 r.2 (rv.leaf r.1) s
theorem dl_arg {i : Nat} (h : ρ[i]? = some (some (Sl.arg d))) (r : R d) : DL A ρ (tVar i) R := fun G0 H0 σ G H Q e q => by
  obtain ⟨v, h1, h2⟩ := e.env.arg i d h
  exact ⟨v, h1, q d v G H r (h2.mono e.mns (Ex.refl _)) e.has.refl⟩
theorem dl_val {i : Nat} (h : ρ[i]? = some (some (Sl.val d))) (r : R d) : DL A ρ (tVar i) R := dl_de ((de_var h).imp fun _ e => e ▸ r)
theorem w_arg {i : Nat} (h : ρ[i]? = some (some (Sl.arg d))) (l : leaf d = true) (r : R d) : DE A ρ (tVar i) R := de_dl (dl_arg h ⟨l, r⟩)
theorem dl_own {i : Nat} {ds : List D} (h : ρ[i]? = some (some (Sl.own ds))) (r : R (.lst ds)) : DL A ρ (tVar i) R := fun G0 H0 σ G H Q e q => by
  obtain ⟨a, vs, h1, h2, h3, h4, h5⟩ := e.env.own i ds h
  refine ⟨_, h1, q _ _ G H r (.lst ?_ (LoL.of h5)) e.has.refl⟩
  unfold mns
  rw [if_neg (fun z => ?_)]
  · exact h4
  · obtain ⟨_, o, ho, _⟩ := e.ent.2 a z.symm
    rw [h2] at ho; cases ho
theorem dla_da {S : List D → Prop} (h : DA A ρ tl S) : DLA A ρ tl S := fun G0 H0 σ G H Q e q => h G0 H0 σ G H Q e fun d v G2 H2 r rv s => q d v G2 H2 r (LoL.of rv) s
theorem dla_nil {S : List D → Prop} (h : S []) : DLA A ρ tNil S := fun G0 H0 σ G H Q e q => q [] [] G H h .nil e.has.refl
theorem dla_cons {tr : TA} {S : List D → Prop} (ha : DL A ρ ta fun x => DLA A ρ tr fun xs => S (x :: xs)) : DLA A ρ (tCons ta tr) S := fun G0 H0 σ G H Q e q => by
  refine ha G0 H0 σ G H _ e fun x v G2 H2 rx hv s2 => ?_
  exact rx G0 H0 σ G2 H2 _ (e.step s2) fun xs ws G3 H3 ry hw s3 => q (x :: xs) (v :: ws) G3 H3 ry (.cons (s3.lo hv) hw) (s2.trans s3)
theorem Has.np {P : Option Addr} {W : HO → Prop} (h : Has P W G H) {p : Addr} (np : H p = Option.none) : some p ≠ P := fun z => by
  obtain ⟨_, o, ho, _⟩ := h.2 p z.symm
  rw [np] at ho; cases ho
theorem mns_new {P : Option Addr} {p : Addr} {o : HO} (n : some p ≠ P) : mns P (upd H p o) p = some o := by
  unfold mns
  rw [if_neg n, upd_same]
theorem dl_lst (h : DLA A ρ tl fun ds => ds.length ≤ sizeLine ∧ R (.lst ds)) : DL A ρ (tLst tl) R := fun G0 H0 σ G H Q e q => by
  refine h G0 H0 σ G H _ e fun ds vs G2 H2 hd r s2 => ⟨by rw [r.len]; exact hd.1, fun p np => ?_⟩
  have s3 := s2.has.grow (Ex.new (o := .lst vs) np)
  exact q _ _ _ _ hd.2 (.lst (mns_new (s2.has.np np)) (s3.loL r)) (s2.trans s3)
theorem dl_tup (h : DLA A ρ tl fun ds => ds.length ≤ sizeLine ∧ R (.tup ds)) : DL A ρ (tTup tl) R := fun G0 H0 σ G H Q e q => by
  refine h G0 H0 σ G H _ e fun ds vs G2 H2 hd r s2 => ⟨by rw [r.len]; exact hd.1, fun p np => ?_⟩
  have s3 := s2.has.grow (Ex.new (o := .tup vs) np)
  exact q _ _ _ _ hd.2 (.tup (mns_new (s2.has.np np)) (s3.loL r)) (s2.trans s3)
theorem dl_op {r : R2} (h : DL A ρ ta fun x => DL A ρ tb fun y => OpL A r x y R) : DL A ρ (tOp r ta tb) R := fun G0 H0 σ G H Q e q => by
  refine h G0 H0 σ G H _ e fun x v G2 H2 rx hv s2 => ?_
  refine rx G0 H0 σ G2 H2 _ (e.step s2) fun y w G3 H3 ry hw s3 => ?_
  exact ry G3 H3 v w Q s3.has (s3.lo hv) hw fun z u G4 H4 rz hu s4 => q z u G4 H4 rz hu ((s2.trans s3).trans s4)
theorem dl_cb {r : List V → Hp → VK → Prop} (ha : DLA A ρ tl fun xs => CaL A r xs R) : DL A ρ (tCB r tl) R := fun G0 H0 σ G H Q e q => by
  refine ha G0 H0 σ G H _ e fun x v G2 H2 rx hv s2 => ?_
  exact rx G2 H2 v Q s2.has hv fun z u G4 H4 rz hu s4 => q z u G4 H4 rz hu (s2.trans s4)
theorem sca_rep (h : sca z = true) {u : V} (r : Rep C G z u) : Rep C G2 z u := by
  cases r with
  | non => exact .non
  | bl b => exact .bl b
  | int i => exact .int i
  | str x => exact .str x
  | lst _ _ => cases h
  | tup _ _ => cases h
  | ins _ _ _ => cases h
theorem Has.mns {P : Option Addr} {W : HO → Prop} (h : Has P W G H) : Has P W (GD.mns P H) H ∧ Ex G (GD.mns P H) := by
  refine ⟨⟨mns_ex, fun a e => ⟨?_, (h.2 a e).2⟩⟩, fun a o q => ?_⟩
  · unfold GD.mns
    rw [if_pos e.symm]
  · unfold GD.mns
    rw [if_neg (fun z => ?_)]
    · exact h.1 a o q
    · have := (h.2 a z.symm).1
      rw [q] at this; cases this
theorem Stp.loose {P : Option Addr} {W : HO → Prop} (h : Has P W G H) (s : Stp P W (GD.mns P H) H G2 H2) : Stp P W G H G H2 :=
  ⟨Ex.refl G, (h.mns.2.trans s.g).trans s.h, s.k, fun _ _ q _ _ => q, fun a e => ⟨(h.2 a e).1, (s.p a e).2⟩⟩
theorem opl_of {r : R2} (h : OpD A r x y fun z => sca z = true ∧ R z) : OpL A r x y R := fun G H v w Q hs hv hw q => by
  obtain ⟨h1, h2⟩ := hs.mns
  exact h _ H v w Q h1 (hv.rep (Ex.refl _) h2) (hw.rep (Ex.refl _) h2) fun z u G2 H2 rz ru s => q z u G H2 rz.2 (.of (sca_rep rz.1 ru)) (s.loose hs)
theorem cal_of {r : List V → Hp → VK → Prop} {xs : List D} (h : CaD A r xs fun z => sca z = true ∧ R z) : CaL A r xs R := fun G H vs Q hs hv q => by
  obtain ⟨h1, h2⟩ := hs.mns
  exact h _ H vs Q h1 (hv.rep (Ex.refl _) h2) fun z u G2 H2 rz ru s => q z u G H2 rz.2 (.of (sca_rep rz.1 ru)) (s.loose hs)
theorem ol_ixL {K : PySem.W.Frag} {ds : List D} {i : Int} {j : Nat} {e : D} (hi : ixN ds.length i = some j) (hj : ds[j]? = some e) (hr : R e) : OpL A (rIxL K) (.lst ds) (.int i) R := fun G H v w Q hs hv hw q => by
  obtain ⟨a, vs, rfl, h1, r⟩ := hv.lstI mns_ex hs.1
  cases hw.leaf rfl
  obtain ⟨u, h2, h3⟩ := r.get hj
  refine ⟨_, _, i, u, rfl, rfl, SqL.of h1, ?_, q e u G H hr h3 hs.refl⟩
  unfold atI
  rw [r.len, hi]
  exact h2
theorem ol_ixT {K : PySem.W.Frag} {ds : List D} {i : Int} {j : Nat} {e : D} (hi : ixN ds.length i = some j) (hj : ds[j]? = some e) (hr : R e) : OpL A (rIxT K) (.tup ds) (.int i) R := fun G H v w Q hs hv hw q => by
  obtain ⟨a, vs, rfl, h1, r⟩ := hv.tupI mns_ex hs.1
  cases hw.leaf rfl
  obtain ⟨u, h2, h3⟩ := r.get hj
  refine ⟨_, _, i, u, rfl, rfl, SqT.of h1, ?_, q e u G H hr h3 hs.refl⟩
  unfold atI
  rw [r.len, hi]
  exact h2
theorem ol_orL {r r' : R2} (h : OpL A r x y R) : OpL A (fun v w H Q => r v w H Q ∨ r' v w H Q) x y R := fun G H v w Q hs hv hw q => .inl (h G H v w Q hs hv hw q)
theorem ol_orR {r r' : R2} (h : OpL A r' x y R) : OpL A (fun v w H Q => r v w H Q ∨ r' v w H Q) x y R := fun G H v w Q hs hv hw q => .inr (h G H v w Q hs hv hw q)
theorem DM.imp (h : DM A ρ te R) (k : ∀ d, R d → R1 d) : DM A ρ te R1 := fun G0 H0 σ G H Q e q => h G0 H0 σ G H Q e fun d v G2 H2 r => q d v G2 H2 (k d r)
theorem dm_de (h : DE A ρ te R) : DM A ρ te R := fun G0 H0 σ G H Q e q => h G0 H0 σ G H Q e fun d v G2 H2 r rv s => q d v G2 H2 r (.of rv) s
theorem dm_arg {i : Nat} (h : ρ[i]? = some (some (Sl.arg d))) (r : R d) : DM A ρ (tVar i) R := fun G0 H0 σ G H Q e q => by
  obtain ⟨v, h1, h2⟩ := e.env.arg i d h
  exact ⟨v, h1, q d v G H r h2 e.has.refl⟩
theorem dm_val {i : Nat} (h : ρ[i]? = some (some (Sl.val d))) (r : R d) : DM A ρ (tVar i) R := dm_de ((de_var h).imp fun _ e => e ▸ r)
theorem dl_dm (h : DM A ρ te R) : DL A ρ te R := fun G0 H0 σ G H Q e q => h G0 H0 σ G H Q e fun d v G2 H2 r rv s => q d v G2 H2 r (rv.mono (e.step s).mns (Ex.refl _)) s
theorem dm_ix {r : R2} (h : DM A ρ ta fun x => DE A ρ tb fun y => ∀ M, (∀ G H v w (Q : VK), Ex M H → Has A.P A.W G H → Lo A.C M G x v → Rep A.C G y w → (∀ z u, R z → Lo A.C M G z u → Q u H) → r v w H Q)) : DM A ρ (tOp r ta tb) R := fun G0 H0 σ G H Q e q => by
  refine h G0 H0 σ G H _ e fun x v G2 H2 rx hv s2 => ?_
  refine rx G0 H0 σ G2 H2 _ (e.step s2) fun y w G3 H3 ry hw s3 => ?_
  have e3 := (e.step s2).step s3
  exact ry _ G3 H3 v w Q (e3.mns.trans mns_ex) s3.has (hv.mono (Ex.refl _) s3.g) hw fun z u rz hu => q z u G3 H3 rz hu (s2.trans s3)
theorem om_ixL {K : PySem.W.Frag} {M : Hp} {ds : List D} {i : Int} {j : Nat} {e : D} (hi : ixN ds.length i = some j) (hj : ds[j]? = some e) (hr : R e) : ∀ G H v w (Q : VK), Ex M H → Has A.P A.W G H → Lo A.C M G (.lst ds) v → Rep A.C G (.int i) w → (∀ z u, R z → Lo A.C M G z u → Q u H) → rIxL K v w H Q := fun G H v w Q m hs hv hw q => by
  obtain ⟨a, vs, rfl, h1, r⟩ := hv.lstI m hs.1
  cases hw
  obtain ⟨u, h2, h3⟩ := r.get hj
  refine ⟨_, _, i, u, rfl, rfl, SqL.of h1, ?_, q e u hr h3⟩
  unfold atI
  rw [r.len, hi]
  exact h2
theorem om_ixT {K : PySem.W.Frag} {M : Hp} {ds : List D} {i : Int} {j : Nat} {e : D} (hi : ixN ds.length i = some j) (hj : ds[j]? = some e) (hr : R e) : ∀ G H v w (Q : VK), Ex M H → Has A.P A.W G H → Lo A.C M G (.tup ds) v → Rep A.C G (.int i) w → (∀ z u, R z → Lo A.C M G z u → Q u H) → rIxT K v w H Q := fun G H v w Q m hs hv hw q => by
  obtain ⟨a, vs, rfl, h1, r⟩ := hv.tupI m hs.1
  cases hw
  obtain ⟨u, h2, h3⟩ := r.get hj
  refine ⟨_, _, i, u, rfl, rfl, SqT.of h1, ?_, q e u hr h3⟩
  unfold atI
  rw [r.len, hi]
  exact h2
end
end GD
/-! Calls, iterators, comprehensions, statements over data. -/
namespace GD
open PySem L2
open Evl (Ex)

/-! ### fields -/
theorem lookup_fsOf_out : ∀ {ns : List Str} {vs : List V} {acc : List (Str × V)} {m : Str}, m ∉ ns → (fsOf ns vs acc).lookup m = acc.lookup m
  | [], _, _, _, _ => rfl
  | n :: ns, [], _, _, _ => rfl
  | n :: ns, v :: vs, acc, m, h => by
    have h1 : m ≠ n := fun e => h (by rw [e]; exact List.mem_cons_self)
    have h2 : m ∉ ns := fun e => h (List.mem_cons_of_mem _ e)
    show (fsOf ns vs (putF n v acc)).lookup m = _
    rw [lookup_fsOf_out h2, lookup_putF, if_neg h1]
theorem lookup_fsOf : ∀ {ns : List Str} {vs : List V} {acc : List (Str × V)} {k : Nat} {f : Str} {v : V}, ns.Nodup → ns[k]? = some f → vs[k]? = some v → (fsOf ns vs acc).lookup f = some v
  | [], _, _, _, _, _, _, h, _ => by simp at h
  | n :: ns, [], _, _, _, _, _, _, h => by simp at h
  | n :: ns, w :: vs, acc, 0, f, v, hn, h1, h2 => by
    have e1 : n = f := by simpa using h1
    have e2 : w = v := by simpa using h2
    subst e1; subst e2
    show (fsOf ns vs (putF n w acc)).lookup n = _
    rw [lookup_fsOf_out (List.nodup_cons.mp hn).1, lookup_putF, if_pos rfl]
  | n :: ns, w :: vs, acc, k + 1, f, v, hn, h1, h2 => by
    show (fsOf ns vs (putF n w acc)).lookup f = _
    exact lookup_fsOf (k := k) (List.nodup_cons.mp hn).2 (by simpa using h1) (by simpa using h2)

/-! ### promises over data -/
/-- a def that only makes objects -/
def spD (C : CT) (pre : List D → Prop) (post : List D → D → Prop) : Sp := fun vs H Q _ => ∃ G ds, Ex G H ∧ LoL C (mns none H) G ds vs ∧ pre ds ∧
  ∀ d v G2 H2, post ds d → Rep C G2 d v → Stp none (fun _ => True) G H G2 H2 → Q v H2
/-- a def whose first argument is the pot -/
def spP (C : CT) (W : HO → Prop) (pre : List D → Prop) (post : List D → D → Prop) : Sp := fun vs H Q _ => ∃ p G ds ws, vs = .ref p :: ws ∧ Has (some p) W G H ∧ LoL C (mns (some p) H) G ds ws ∧ pre ds ∧
  ∀ d v G2 H2, post ds d → Rep C G2 d v → Stp (some p) W G H G2 H2 → Q v H2
/-- __init__ of the c-th class: es its fields -/
def spI (C : CT) (c : Nat) (pre : List D → Prop) (post : List D → List D → Prop) : Sp := fun vs H Q _ => ∃ a dx G ds ws, vs = .ref a :: ws ∧ Ex G H ∧ G a = none ∧ H a = some (.ins (C c).1 dx []) ∧ LoL C (mns none H) G ds ws ∧ pre ds ∧
  ∀ es us G2 H2, post ds es → RepL C G2 es us → H2 a = some (.ins (C c).1 dx (fsOf (C c).2 us [])) → G2 a = none → (∀ b o, b ≠ a → H b = some o → H2 b = some o) → Ex G G2 → Ex G2 H2 → (∀ b o, b ≠ a → G b = none → H b = some o → NT o → G2 b = none) → Q .non H2
/-! ### what is new: lists that neither stood in H nor are data yet -/
mutual
inductive Fr (C : CT) (G2 H2 : Hp) : Hp → D → V → Prop
  | leaf {H : Hp} {d : D} {v : V} : leaf d = true → Rep C G2 d v → Fr C G2 H2 H d v
  | lst {H : Hp} {a : Addr} {vs : List V} {ds : List D} : H a = none → G2 a = none → H2 a = some (.lst vs) → FrL C G2 H2 (upd H a (.lst [])) ds vs → Fr C G2 H2 H (.lst ds) (.ref a)
  | tup {H : Hp} {a : Addr} {vs : List V} {ds : List D} : H2 a = some (.tup vs) → FrL C G2 H2 H ds vs → Fr C G2 H2 H (.tup ds) (.ref a)
inductive FrL (C : CT) (G2 H2 : Hp) : Hp → List D → List V → Prop
  | nil {H : Hp} : FrL C G2 H2 H [] []
  | cons {H : Hp} {d : D} {v : V} {ds : List D} {vs : List V} : Fr C G2 H2 H d v → FrL C G2 H2 H ds vs → FrL C G2 H2 H (d :: ds) (v :: vs)
end
section
variable {C : CT} {P : Option Addr} {W : HO → Prop} {H H' G2 H2 G3 H3 : Hp}
theorem fr_l {a : Addr} {vs : List V} (hp : ∀ b, P = some b → H b ≠ none) (s : Stp P W G2 H2 G3 H3) (h1 : H a = none) (h2 : G2 a = none) (h3 : H2 a = some (.lst vs)) : G3 a = none ∧ H3 a = some (.lst vs) :=
  ⟨s.f a _ h2 h3 (fun _ z => nomatch z), s.k a _ h3 fun z => hp a z.symm h1⟩
theorem fr_t {a : Addr} {vs : List V} (w : ∀ b, P = some b → ∃ o, H2 b = some o ∧ NT o) (s : Stp P W G2 H2 G3 H3) (h3 : H2 a = some (.tup vs)) : H3 a = some (.tup vs) :=
  s.k a _ h3 fun z => by
    obtain ⟨o, ho, nt⟩ := w a z.symm
    rw [h3] at ho
    exact nt vs (Option.some.inj ho).symm
theorem upd_l {a c : Addr} {o u : HO} (n : H a ≠ none) (h1 : H c = none) (h3 : H2 c = some u) : upd H2 a o c = some u := by
  rw [upd_ne (fun z => by subst z; exact n h1)]; exact h3
theorem upd_t {a c : Addr} {o : HO} {us vs : List V} (ha : H2 a = some (.lst us)) (h3 : H2 c = some (.tup vs)) : upd H2 a o c = some (.tup vs) := by
  rw [upd_ne (fun z => by subst z; rw [ha] at h3; cases h3)]; exact h3
theorem upd_nn {a : Addr} {o : HO} {H : Hp} (hp : ∀ b, P = some b → H b ≠ none) : ∀ b, P = some b → upd H a o b ≠ none := fun b z => by
  by_cases h : b = a
  · subst h; rw [upd_same]; exact nofun
  · rw [upd_ne h]; exact hp b z
theorem upd_wk {a : Addr} {o : HO} {H H' : Hp} (e : ∀ a, H' a = none → H a = none) : ∀ b, upd H' a o b = none → upd H a o b = none := fun b z => by
  by_cases h : b = a
  · subst h; rw [upd_same] at z; cases z
  · rw [upd_ne h] at z ⊢; exact e b z
theorem upd_wk0 {a : Addr} {o : HO} {H : Hp} : ∀ b, upd H a o b = none → H b = none := fun b z => by
  by_cases h : b = a
  · subst h; rw [upd_same] at z; cases z
  · rw [upd_ne h] at z; exact z
mutual
theorem Fr.step (w : ∀ b, P = some b → ∃ o, H2 b = some o ∧ NT o) (s : Stp P W G2 H2 G3 H3) : ∀ {H : Hp} {d : D} {v : V}, (∀ b, P = some b → H b ≠ none) → Fr C G2 H2 H d v → Fr C G3 H3 H d v
  | _, _, _, _, .leaf l r => .leaf l (r.mono s.g)
  | _, _, _, hp, .lst h1 h2 h3 r => .lst h1 (fr_l hp s h1 h2 h3).1 (fr_l hp s h1 h2 h3).2 (FrL.step w s (upd_nn hp) r)
  | _, _, _, hp, .tup h3 r => .tup (fr_t w s h3) (FrL.step w s hp r)
theorem FrL.step (w : ∀ b, P = some b → ∃ o, H2 b = some o ∧ NT o) (s : Stp P W G2 H2 G3 H3) : ∀ {H : Hp} {ds : List D} {vs : List V}, (∀ b, P = some b → H b ≠ none) → FrL C G2 H2 H ds vs → FrL C G3 H3 H ds vs
  | _, _, _, _, .nil => .nil
  | _, _, _, hp, .cons h r => .cons (Fr.step w s hp h) (FrL.step w s hp r)
end
mutual
theorem Fr.weak : ∀ {H H' : Hp} (_ : ∀ a, H' a = none → H a = none) {d : D} {v : V}, Fr C G2 H2 H' d v → Fr C G2 H2 H d v
  | _, _, _, _, _, .leaf l r => .leaf l r
  | _, _, e, _, _, .lst h1 h2 h3 r => .lst (e _ h1) h2 h3 (FrL.weak (upd_wk e) r)
  | _, _, e, _, _, .tup h3 r => .tup h3 (FrL.weak e r)
theorem FrL.weak : ∀ {H H' : Hp} (_ : ∀ a, H' a = none → H a = none) {ds : List D} {vs : List V}, FrL C G2 H2 H' ds vs → FrL C G2 H2 H ds vs
  | _, _, _, _, _, .nil => .nil
  | _, _, e, _, _, .cons h r => .cons (Fr.weak e h) (FrL.weak e r)
end
mutual
/-- a list that is none of them changes -/
theorem Fr.upd {a : Addr} {o : HO} {us : List V} (ha : H2 a = some (.lst us)) : ∀ {H : Hp} {d : D} {v : V}, H a ≠ none → Fr C G2 H2 H d v → Fr C G2 (upd H2 a o) H d v
  | _, _, _, _, .leaf l r => .leaf l r
  | _, _, _, n, .lst h1 h2 h3 r => .lst h1 h2 (upd_l n h1 h3) (FrL.upd ha (fun z => n (upd_wk0 _ z)) r)
  | _, _, _, n, .tup h3 r => .tup (upd_t ha h3) (FrL.upd ha n r)
theorem FrL.upd {a : Addr} {o : HO} {us : List V} (ha : H2 a = some (.lst us)) : ∀ {H : Hp} {ds : List D} {vs : List V}, H a ≠ none → FrL C G2 H2 H ds vs → FrL C G2 (upd H2 a o) H ds vs
  | _, _, _, _, .nil => .nil
  | _, _, _, n, .cons h r => .cons (Fr.upd ha n h) (FrL.upd ha n r)
end
theorem upd_cm {a b : Addr} {o u : HO} {H : Hp} : ∀ c, upd (upd H b u) a o c = none → upd (upd H a o) b u c = none := fun c z => by
  by_cases ha : c = a
  · subst ha; rw [upd_same] at z; cases z
  · rw [upd_ne ha] at z
    by_cases hb : c = b
    · subst hb; rw [upd_same] at z; cases z
    · rw [upd_ne hb] at z ⊢
      rw [upd_ne ha]; exact z
mutual
/-- .. relative to a heap with one object more, that is none of them -/
theorem Fr.add {a : Addr} {o : HO} (n : H2 a = none) : ∀ {H : Hp} {d : D} {v : V}, Fr C G2 H2 H d v → Fr C G2 H2 (upd H a o) d v
  | _, _, _, .leaf l r => .leaf l r
  | _, _, _, .lst h1 h2 h3 r => .lst (by rw [upd_ne (fun z => by subst z; rw [n] at h3; cases h3)]; exact h1) h2 h3 ((FrL.add n r).weak upd_cm)
  | _, _, _, .tup h3 r => .tup h3 (FrL.add n r)
theorem FrL.add {a : Addr} {o : HO} (n : H2 a = none) : ∀ {H : Hp} {ds : List D} {vs : List V}, FrL C G2 H2 H ds vs → FrL C G2 H2 (upd H a o) ds vs
  | _, _, _, .nil => .nil
  | _, _, _, .cons h r => .cons (Fr.add n h) (FrL.add n r)
end
theorem FrL.len : ∀ {ds : List D} {vs : List V}, FrL C G2 H2 H ds vs → vs.length = ds.length
  | _, _, .nil => rfl
  | _, _, .cons _ r => by simp [r.len]
theorem FrL.snoc : ∀ {ds : List D} {vs : List V} {d : D} {v : V}, FrL C G2 H2 H ds vs → Fr C G2 H2 H d v → FrL C G2 H2 H (ds ++ [d]) (vs ++ [v])
  | _, _, _, _, .nil, h => .cons h .nil
  | _, _, _, _, .cons h r, h2 => .cons h (r.snoc h2)
theorem FrL.leaves : ∀ {ds : List D} {vs : List V}, RepL C G2 ds vs → (∀ d ∈ ds, GD.leaf d = true) → FrL C G2 H2 H ds vs
  | _, _, .nil, _ => .nil
  | _, _, .cons h r, l => .cons (.leaf (l _ List.mem_cons_self) h) (FrL.leaves r fun d hd => l d (List.mem_cons_of_mem _ hd))
theorem Stp.back (st : Stp P W G2 H G3 H2) (hp : ∀ b, P = some b → ∃ o, H2 b = some o) (a : Addr) (h : H2 a = none) : H a = none := by
  cases q : H a with
  | none => rfl
  | some o =>
    by_cases z : some a = P
    · obtain ⟨o, ho⟩ := hp a z.symm
      rw [h] at ho; cases ho
    · have := st.k a o q z
      rw [h] at this; cases this
/-- all that is new, and all tuples, become data -/
def frzAll (H G2 H2 : Hp) : Hp := fun a => match H2 a with
  | some (.tup vs) => some (.tup vs)
  | some o => if H a = none then some o else G2 a
  | none => none
theorem frz_t {a : Addr} {vs : List V} (h : H2 a = some (.tup vs)) : frzAll H G2 H2 a = some (.tup vs) := by unfold frzAll; rw [h]
theorem frz_n {a : Addr} {o : HO} (h : H2 a = some o) (n : H a = none) : frzAll H G2 H2 a = some o := by
  unfold frzAll
  rw [h]
  cases o <;> first | rfl | (simp only []; rw [if_pos n])
theorem frz_g (e : Ex G2 H2) : Ex G2 (frzAll H G2 H2) := fun a o q => by
  have h := e a o q
  unfold frzAll
  rw [h]
  cases o <;> first | rfl | (simp only []; split; rfl; exact q)
theorem frz_h (e : Ex G2 H2) : Ex (frzAll H G2 H2) H2 := fun a o q => by
  unfold frzAll at q
  split at q
  · rename_i h; rw [h]; exact q
  · rename_i o' _ h
    split at q
    · rw [h]; exact q
    · exact e a o q
  · cases q
mutual
theorem Fr.frzW (e : Ex G2 H2) : ∀ {H' : Hp} {d : D} {v : V}, (∀ a, H' a = none → H a = none) → Fr C G2 H2 H' d v → Rep C (frzAll H G2 H2) d v
  | _, _, _, _, .leaf _ r => r.mono (frz_g e)
  | _, _, _, k, .lst h1 _ h3 r => .lst (frz_n h3 (k _ h1)) (FrL.frzW e (fun a z => k a (upd_wk0 a z)) r)
  | _, _, _, k, .tup h3 r => .tup (frz_t h3) (FrL.frzW e k r)
theorem FrL.frzW (e : Ex G2 H2) : ∀ {H' : Hp} {ds : List D} {vs : List V}, (∀ a, H' a = none → H a = none) → FrL C G2 H2 H' ds vs → RepL C (frzAll H G2 H2) ds vs
  | _, _, _, _, .nil => .nil
  | _, _, _, k, .cons h r => .cons (Fr.frzW e k h) (FrL.frzW e k r)
end
theorem Fr.frz (e : Ex G2 H2) {d : D} {v : V} (h : Fr C G2 H2 H d v) : Rep C (frzAll H G2 H2) d v := h.frzW e fun _ z => z
theorem FrL.frz (e : Ex G2 H2) {ds : List D} {vs : List V} (h : FrL C G2 H2 H ds vs) : RepL C (frzAll H G2 H2) ds vs := h.frzW e fun _ z => z
theorem Stp.frz {G : Hp} (hs : Has P W G H) (s : Stp P W G H G2 H2) : Stp P W G H (frzAll H G2 H2) H2 := by
  refine ⟨s.g.trans (frz_g s.h), frz_h s.h, s.k, fun a o h1 h2 h3 => ?_, fun a e => ?_⟩
  · by_cases z : some a = P
    · obtain ⟨g, o', ho, _, nt⟩ := s.p a z.symm
      unfold frzAll
      rw [ho]
      cases o' <;> first | exact absurd rfl (nt _) | (simp only []; rw [if_neg (by rw [h2]; exact nofun)]; exact g)
    · have := s.k a o h2 z
      unfold frzAll
      rw [this]
      cases o <;> first | exact absurd rfl (h3 _) | (simp only []; rw [if_neg (by rw [h2]; exact nofun)]; exact s.f a _ h1 h2 h3)
  · obtain ⟨g, o', ho, w, nt⟩ := s.p a e
    refine ⟨?_, o', ho, w, nt⟩
    obtain ⟨_, o2, ho2, _⟩ := hs.2 a e
    unfold frzAll
    rw [ho]
    cases o' <;> first | exact absurd rfl (nt _) | (simp only []; rw [if_neg (by rw [ho2]; exact nofun)]; exact g)
end
/-- a def that hands back what is new -/
def spF (C : CT) (pre : List D → Prop) (post : List D → D → Prop) : Sp := fun vs H Q _ => ∃ G ds, Ex G H ∧ LoL C (mns none H) G ds vs ∧ pre ds ∧
  ∀ d v G2 H2, post ds d → Fr C G2 H2 H d v → Stp none (fun _ => True) G H G2 H2 → Q v H2
/-- a def whose first argument is the pot, the others data -/
def spC (C : CT) (W : HO → Prop) (pre : List D → Prop) (post : List D → D → Prop) : Sp := fun vs H Q _ => ∃ p G ds ws, vs = .ref p :: ws ∧ Has (some p) W G H ∧ RepL C G ds ws ∧ pre ds ∧
  ∀ d v G2 H2, post ds d → Rep C G2 d v → Stp (some p) W G H G2 H2 → Q v H2
/-- what evaluates to what is new -/
def DN (A : Amb) (ρ : Ro) (te : TE) (R : D → Prop) : Prop := ∀ G0 H0 σ G H (Q : VK), Here A G0 H0 ρ σ G H →
  (∀ d v G2 H2, R d → Fr A.C G2 H2 H d v → A.St G H G2 H2 → Q v H2) → te σ H Q
def DNA (A : Amb) (ρ : Ro) (ta : TA) (R : List D → Prop) : Prop := ∀ G0 H0 σ G H (Q : List V → Hp → Prop), Here A G0 H0 ρ σ G H →
  (∀ ds vs G2 H2, R ds → FrL A.C G2 H2 H ds vs → A.St G H G2 H2 → Q vs H2) → ta σ H Q
section
variable {A : Amb} {ρ : Ro} {te ta tb : TE} {tt tu : TT} {tl : TA} {R Ra R1 : D → Prop} {x y z d : D}
theorem Here.pure {G0 H0 G H G2 H2 : Hp} {σ : L2.St} (h : Here A G0 H0 ρ σ G H) (s : Stp none (fun _ => True) G H G2 H2) : A.St G H G2 H2 := by
  refine ⟨s.g, s.h, fun x o q _ => s.k x o q (by simp), s.f, fun x e => ?_⟩
  obtain ⟨n, o, ho, w, l⟩ := h.has.2 x e
  exact ⟨s.f x o n ho l, o, s.k x o ho (by simp), w, l⟩
theorem mns_none {P : Option Addr} {H : Hp} : Ex (mns P H) (mns none H) := fun a o q => by
  have := mns_ex a o q
  unfold mns
  rw [if_neg (by simp)]
  exact this
theorem mns_of {H H2 : Hp} (k : ∀ b o, H b = some o → NT o ∨ (∃ ts, o = .tup ts) → H2 b = some o) : Ex (mns none H) (mns none H2) := fun a o q => by
  unfold mns at q ⊢
  rw [if_neg (by simp)] at q ⊢
  refine k a o q ?_
  cases o <;> first | exact .inr ⟨_, rfl⟩ | exact .inl fun _ z => nomatch z
/-- a call; des stand for the defaults -/
theorem de_call {pre : List D → Prop} {post : List D → D → Prop} {dvs : List V} {des : List D} {E : XK} (hd : ∀ G, RepL A.C G des dvs) (h : DLA A ρ tl fun ds => pre (ds ++ des) ∧ ∀ d, post (ds ++ des) d → R d) : DE A ρ (tCall (spD A.C pre post) dvs E tl) R := fun G0 H0 σ G H Q e q => by
  refine h G0 H0 σ G H _ e fun ds vs G2 H2 hp r s2 => ⟨G2, ds ++ des, s2.h, (r.append (LoL.of (hd G2))).mono mns_none (Ex.refl _), hp.1, fun d v G3 H3 hd r3 s3 => ?_⟩
  exact q d v G3 H3 (hp.2 d hd) r3 (s2.trans ((e.step s2).pure s3))
/-- a call with no defaults -/
theorem de_call0 {pre : List D → Prop} {post : List D → D → Prop} {E : XK} (h : DLA A ρ tl fun ds => pre ds ∧ ∀ d, post ds d → R d) : DE A ρ (tCall (spD A.C pre post) [] E tl) R := de_call (des := []) (fun _ => .nil) (h.imp fun ds h => by rw [List.append_nil]; exact h)
/-- a call whose first argument is the pot -/
theorem de_callP {i : Nat} {pre : List D → Prop} {post : List D → D → Prop} {E : XK} (hi : ρ[i]? = some (some Sl.pot)) (h : DLA A ρ tl fun ds => pre ds ∧ ∀ d, post ds d → R d) : DE A ρ (tCall (spP A.C A.W pre post) [] E (tCons (tVar i) tl)) R := fun G0 H0 σ G H Q e q => by
  obtain ⟨p, hP, hσ⟩ := e.env.pot i hi
  refine ⟨.ref p, hσ, ?_⟩
  refine h G0 H0 σ G H _ e fun ds vs G2 H2 hp r s2 => ⟨p, G2, ds, vs, by rw [List.append_nil], by rw [← hP]; exact s2.has, by rw [← hP]; exact r, hp.1, fun d v G3 H3 hd r3 s3 => ?_⟩
  rw [← hP] at s3
  exact q d v G3 H3 (hp.2 d hd) r3 (s2.trans s3)
/-- o.f -/
theorem de_fld {K : PySem.W.Frag} {f : Str} {c k : Nat} {ds : List D} (hc : Cls K (A.C c).1) (hn : NoAttr K (A.C c).1 f) (hk : (A.C c).2[k]? = some f) (nd : (A.C c).2.Nodup)
    (h : DE A ρ ta fun x => ∃ ds, x = .ins c ds ∧ ∃ d, ds[k]? = some d ∧ R d) : DE A ρ (tFld K ta f) R := fun G0 H0 σ G H Q e q => by
  refine h G0 H0 σ G H _ e fun x v G2 H2 hx hv s2 => ?_
  obtain ⟨ds, rfl, d, hd, hr⟩ := hx
  cases hv with
  | ins h1 r _ =>
    obtain ⟨u, hu, ru⟩ := r.get hd
    exact ⟨_, _, _, _, u, rfl, s2.h _ _ h1, hc, hn, lookup_fsOf nd hk hu, q d u G2 H2 hr ru s2⟩
/-- o.m(..) -/
theorem de_meth {m : Str} {c : Nat} {pre : List D → Prop} {post : List D → D → Prop} {dvs : List V} {des : List D} {E : XK} (hm : m ∉ (A.C c).2) (hd : ∀ G, RepL A.C G des dvs)
    (h : DE A ρ ta fun x => ∃ es, x = .ins c es ∧ DLA A ρ tl fun ds => pre (x :: (ds ++ des)) ∧ ∀ d, post (x :: (ds ++ des)) d → R d) : DE A ρ (tMeth (A.C c).1 m (spD A.C pre post) dvs E ta tl) R := fun G0 H0 σ G H Q e q => by
  refine h G0 H0 σ G H _ e fun x v G2 H2 hx hv s2 => ?_
  obtain ⟨es, rfl, hx⟩ := hx
  cases id hv with
  | ins h1 r _ =>
    refine ⟨_, _, _, rfl, s2.h _ _ h1, by rw [lookup_fsOf_out hm]; rfl, ?_⟩
    refine hx G0 H0 σ G2 H2 _ (e.step s2) fun ds vs G3 H3 hp r3 s3 => ⟨G3, _, s3.h, .cons (.of (hv.mono s3.g)) ((r3.append (LoL.of (hd G3))).mono mns_none (Ex.refl _)), hp.1, fun d v G4 H4 hd r4 s4 => ?_⟩
    exact q d v G4 H4 (hp.2 d hd) r4 ((s2.trans s3).trans (((e.step s2).step s3).pure s4))
/-- a property -/
theorem de_prop {c : Nat} {pre : List D → Prop} {post : List D → D → Prop} {E : XK} (h : DE A ρ ta fun x => ∃ es, x = .ins c es ∧ pre [x] ∧ ∀ d, post [x] d → R d) : DE A ρ (tProp (A.C c).1 (spD A.C pre post) [] E ta) R := fun G0 H0 σ G H Q e q => by
  refine h G0 H0 σ G H _ e fun x v G2 H2 hx hv s2 => ?_
  obtain ⟨es, rfl, hp, hx⟩ := hx
  cases id hv with
  | ins h1 r _ =>
    refine ⟨_, _, _, rfl, s2.h _ _ h1, G2, _, s2.h, .cons (.of hv) .nil, hp, fun d v G4 H4 hd r4 s4 => ?_⟩
    exact q d v G4 H4 (hx d hd) r4 (s2.trans ((e.step s2).pure s4))
/-- C(..) -/
theorem de_make {c : Nat} {pre : List D → Prop} {post : List D → List D → Prop} {dvs : List V} {des : List D} {E : XK} (hd : ∀ G, RepL A.C G des dvs)
    (h : DLA A ρ tl fun ds => pre (ds ++ des) ∧ ∀ es, post (ds ++ des) es → es.length = (A.C c).2.length ∧ R (.ins c es)) : DE A ρ (tMake (A.C c).1 (spI A.C c pre post) dvs E tl) R := fun G0 H0 σ G H Q e q => by
  refine h G0 H0 σ G H _ e fun ds vs G2 H2 hp r s2 => ?_
  intro x dx nx ndx nex
  have gx : ∀ {b : Addr}, H2 b = none → G2 b = none := fun {b} hb => Evl.fresh_back s2.h hb
  have e1 : Ex G2 (upd (upd H2 dx (.own x)) x (.ins (A.C c).1 dx [])) := s2.h.trans ((Ex.new ndx).trans (Ex.new (by rw [upd_ne (Ne.symm nex)]; exact nx)))
  have e0 : Ex (mns A.P H2) (mns none (upd (upd H2 dx (.own x)) x (.ins (A.C c).1 dx []))) := fun b o q => by
    have h2 := mns_ex b o q
    unfold mns
    rw [if_neg (by simp), upd_ne (ne_of_none h2 nx), upd_ne (ne_of_none h2 ndx)]
    exact h2
  refine ⟨x, dx, G2, ds ++ des, vs ++ dvs, rfl, e1, gx nx, upd_same, (r.append (LoL.of (hd G2))).mono e0 (Ex.refl _), hp.1, fun es us G3 H3 hes rus h3 g3 keep eg eh hl => ⟨rfl, ?_⟩⟩
  have ks : ∀ b o, H2 b = some o → H3 b = some o := fun b o hb => by
    have nb : b ≠ x := ne_of_none hb nx
    refine keep b o nb ?_
    rw [upd_ne nb, upd_ne (ne_of_none hb ndx)]
    exact hb
  have st : A.St G2 H2 (upd G3 x (.ins (A.C c).1 dx (fsOf (A.C c).2 us []))) H3 := by
    refine (e.step s2).pure ⟨eg.trans (Ex.new g3), fun b o hb => ?_, fun b o hb _ => ks b o hb, fun b o h1 h2 h4 => ?_, fun b z => nomatch z⟩
    · by_cases hbx : b = x
      · subst hbx; rw [upd_same] at hb; cases hb; exact h3
      · rw [upd_ne hbx] at hb; exact eh b o hb
    · have nb : b ≠ x := ne_of_none h2 nx
      rw [upd_ne nb]
      refine hl b o nb h1 ?_ h4
      rw [upd_ne nb, upd_ne (ne_of_none h2 ndx)]
      exact h2
  exact q _ _ _ _ (hp.2 es hes).2 (.ins upd_same (rus.mono (Ex.new g3)) (hp.2 es hes).1) (s2.trans st)
end

/-! ### new lists -/
def DF (A : Amb) (ρ : Ro) (te : TE) (R : List D → Prop) : Prop := ∀ G0 H0 σ G H (Q : VK), Here A G0 H0 ρ σ G H →
  (∀ ds a vs G2 H2, R ds → H a = none → G2 a = none → H2 a = some (.lst vs) → RepL A.C G2 ds vs → A.St G H G2 H2 → Q (.ref a) H2) → te σ H Q
section
variable {A : Amb} {ρ : Ro} {te ta tb : TE} {tl : TA} {R : D → Prop}
theorem DF.imp {S S1 : List D → Prop} (h : DF A ρ te S) (k : ∀ ds, S ds → S1 ds) : DF A ρ te S1 := fun G0 H0 σ G H Q e q => h G0 H0 σ G H Q e fun ds a vs G2 H2 r => q ds a vs G2 H2 (k ds r)
theorem Stp.show' {P : Option Addr} {W : HO → Prop} {G H G2 H2 : Hp} {a : Addr} {vs : List V} (s : Stp P W G H G2 H2) (h0 : Has P W G H) (n : H a = none) (g : G2 a = none) (h : H2 a = some (.lst vs)) : Stp P W G H (upd G2 a (.lst vs)) H2 := by
  refine ⟨s.g.trans (Ex.new g), fun b o q => ?_, s.k, fun b o h1 h2 h3 => ?_, fun b q => ?_⟩
  · by_cases hb : b = a
    · subst hb; rw [upd_same] at q; cases q; exact h
    · rw [upd_ne hb] at q; exact s.h b o q
  · have : b ≠ a := ne_of_none h2 n
    rw [upd_ne this]; exact s.f b o h1 h2 h3
  · obtain ⟨x, o, y, z⟩ := h0.2 b q
    have : b ≠ a := ne_of_none y n
    rw [upd_ne this]
    exact s.p b q
theorem DF.de (h : DF A ρ te fun ds => R (.lst ds)) : DE A ρ te R := fun G0 H0 σ G H Q e q => h G0 H0 σ G H Q e fun ds a vs G2 H2 r n g h2 rl s =>
  q _ _ _ _ r (.lst upd_same (rl.mono (Ex.new g))) (s.show' e.has n g h2)
theorem df_lst {R : List D → Prop} (h : DA A ρ tl fun ds => ds.length ≤ sizeLine ∧ R ds) : DF A ρ (tLst tl) R := fun G0 H0 σ G H Q e q => by
  refine h G0 H0 σ G H _ e fun ds vs G2 H2 hd r s2 => ⟨by rw [r.len]; exact hd.1, fun p np => ?_⟩
  have hp : H p = none := by
    cases hh : H p with
    | none => rfl
    | some o =>
      by_cases z : some p = A.P
      · obtain ⟨_, o', ho, _⟩ := s2.p p z.symm
        rw [np] at ho; cases ho
      · have := s2.k p o hh z
        rw [np] at this; cases this
  exact q ds p vs G2 _ hd.2 hp (Evl.fresh_back s2.h np) upd_same r (s2.trans (s2.has.grow (Ex.new np)))
end
end GD
/-! Iterators, comprehensions, statements over data. -/
namespace GD
open PySem L2
open Evl (Ex)

/-- an item: data; or loose, or a tuple of loose ones -/
def Vt (A : Amb) (l : Bool) (H0 G H : Hp) (d : D) (v : V) : Prop :=
  if l = true then Lo A.C (mns A.P H0) G d v ∨ ∃ a vs ds, d = .tup ds ∧ v = .ref a ∧ H a = some (.tup vs) ∧ LoL A.C (mns A.P H0) G ds vs else Rep A.C G d v
theorem Vt.t {A : Amb} {H0 G H : Hp} {d : D} {v : V} (h : Lo A.C (mns A.P H0) G d v) : Vt A true H0 G H d v := by
  unfold Vt
  rw [if_pos rfl]
  exact .inl h
theorem Vt.f {A : Amb} {H0 G H : Hp} {d : D} {v : V} (h : Rep A.C G d v) : Vt A false H0 G H d v := by
  unfold Vt
  rw [if_neg Bool.false_ne_true]
  exact h
theorem Vt.pair {A : Amb} {H0 G H : Hp} {ds : List D} {vs : List V} {a : Addr} (h : H a = some (.tup vs)) (r : LoL A.C (mns A.P H0) G ds vs) : Vt A true H0 G H (.tup ds) (.ref a) := by
  unfold Vt
  rw [if_pos rfl]
  exact .inr ⟨a, vs, ds, rfl, rfl, h, r⟩
theorem Vt.of {A : Amb} {l : Bool} {H0 G H : Hp} {d : D} {v : V} (h : Rep A.C G d v) : Vt A l H0 G H d v := by
  cases l with
  | true => exact .t (.of h)
  | false => exact .f h
/-- what an iterator yields, turn by turn, wherever G stands -/
def ItD (A : Amb) (l : Bool) (H0 : Hp) (J : It) (G : Hp) (ds : List D) : Prop := ∀ (i : Nat) (G' H' : Hp), Ex (mns A.P H0) H' → Ex G G' → Ex G' H' → (i < ds.length → J.go i H') ∧ (i = ds.length → J.stop i H') ∧
  ∀ d, ds[i]? = some d → Has A.P A.W G' H' → ∀ x H2, J.yld i H' x H2 → ∃ G2, A.St G' H' G2 H2 ∧ Vt A l H0 G2 H2 d x
def DI (A : Amb) (l : Bool) (ρ : Ro) (wi : TI) (R : List D → Prop) : Prop := ∀ G0 H0 σ G H (Rr : It → Hp → Prop), Here A G0 H0 ρ σ G H →
  (∀ ds J G2 H2, R ds → ItD A l H0 J G2 ds → A.St G H G2 H2 → Rr J H2) → wi σ H Rr
section
variable {A : Amb} {l : Bool} {ρ : Ro} {te ta tb tl : TE} {tg : TA} {R : List D → Prop} {K : PySem.W.Frag} {H0 : Hp}
theorem itd_list {G : Hp} {a : Addr} {vs : List V} {ds : List D} (h : G a = some (.lst vs)) (r : RepL A.C G ds vs) : ItD A l H0 (Itl K a) G ds := fun i G' H' m e1 e2 => by
  have hs : SqL K H' a vs := SqL.of (e2 _ _ (e1 _ _ h))
  refine ⟨fun hi => ?_, fun hi => ⟨vs, hs, by rw [r.len, hi]; exact Nat.le_refl _⟩, fun d hd hh x H2 hy => ?_⟩
  · obtain ⟨v, hv, _⟩ := r.get (List.getElem?_eq_getElem hi)
    exact ⟨vs, v, hs, hv⟩
  · obtain ⟨rfl, hx⟩ := hy
    obtain ⟨v, hv, rv⟩ := r.get hd
    have := hx vs hs
    rw [hv] at this
    cases this
    exact ⟨G', hh.refl, .of (rv.mono e1)⟩
theorem itd_tup {G : Hp} {a : Addr} {vs : List V} {ds : List D} (h : G a = some (.tup vs)) (r : RepL A.C G ds vs) : ItD A l H0 (Itt K a) G ds := fun i G' H' m e1 e2 => by
  have hs : SqT K H' a vs := SqT.of (e2 _ _ (e1 _ _ h))
  refine ⟨fun hi => ?_, fun hi => ⟨vs, hs, by rw [r.len, hi]; exact Nat.le_refl _⟩, fun d hd hh x H2 hy => ?_⟩
  · obtain ⟨v, hv, _⟩ := r.get (List.getElem?_eq_getElem hi)
    exact ⟨vs, v, hs, hv⟩
  · obtain ⟨rfl, hx⟩ := hy
    obtain ⟨v, hv, rv⟩ := r.get hd
    have := hx vs hs
    rw [hv] at this
    cases this
    exact ⟨G', hh.refl, .of (rv.mono e1)⟩
/-- loose, as it stood at the entry -/
theorem lo_list {G : Hp} {v : V} {ds : List D} (h : Lo A.C (mns A.P H0) G (.lst ds) v) : ∃ a vs, v = .ref a ∧ LoL A.C (mns A.P H0) G ds vs ∧ ∀ G' H', Ex (mns A.P H0) H' → Ex G G' → Ex G' H' → H' a = some (.lst vs) := by
  cases h with
  | of r => cases r with
    | lst h r => exact ⟨_, _, rfl, LoL.of r, fun G' H' _ e1 e2 => e2 _ _ (e1 _ _ h)⟩
  | lst h r => exact ⟨_, _, rfl, r, fun G' H' m _ _ => m _ _ h⟩
theorem lo_tup {G : Hp} {v : V} {ds : List D} (h : Lo A.C (mns A.P H0) G (.tup ds) v) : ∃ a vs, v = .ref a ∧ LoL A.C (mns A.P H0) G ds vs ∧ ∀ G' H', Ex (mns A.P H0) H' → Ex G G' → Ex G' H' → H' a = some (.tup vs) := by
  cases h with
  | of r => cases r with
    | tup h r => exact ⟨_, _, rfl, LoL.of r, fun G' H' _ e1 e2 => e2 _ _ (e1 _ _ h)⟩
  | tup h r => exact ⟨_, _, rfl, r, fun G' H' m _ _ => m _ _ h⟩
theorem di_list (h : DE A ρ tl fun d => ∃ ds, d = .lst ds ∧ R ds) : DI A l ρ (iList K tl) R := fun G0 H0 σ G H Rr e q => by
  refine h G0 H0 σ G H _ e fun d v G2 H2 hd rv s => ?_
  obtain ⟨ds, rfl, hr⟩ := hd
  cases rv with
  | lst h1 r => exact ⟨_, rfl, ⟨_, SqL.of (s.h _ _ h1)⟩, q ds _ G2 H2 hr (itd_list h1 r) s⟩
theorem di_tup (h : DE A ρ tl fun d => ∃ ds, d = .tup ds ∧ R ds) : DI A l ρ (iTup K tl) R := fun G0 H0 σ G H Rr e q => by
  refine h G0 H0 σ G H _ e fun d v G2 H2 hd rv s => ?_
  obtain ⟨ds, rfl, hr⟩ := hd
  cases rv with
  | tup h1 r => exact ⟨_, rfl, ⟨_, SqT.of (s.h _ _ h1)⟩, q ds _ G2 H2 hr (itd_tup h1 r) s⟩
theorem dm_list (h : DM A ρ tl fun d => ∃ ds, d = .lst ds ∧ R ds) : DI A true ρ (iList K tl) R := fun G0 H0 σ G H Rr e q => by
  refine h G0 H0 σ G H _ e fun d v G2 H2 hd rv s => ?_
  obtain ⟨ds, rfl, hr⟩ := hd
  have e2 := e.step s
  obtain ⟨a, vs, rfl, r, st⟩ := lo_list rv
  refine ⟨_, rfl, ⟨_, SqL.of (st G2 H2 (e2.mns.trans mns_ex) (Ex.refl _) s.h)⟩, q ds _ G2 H2 hr (fun i G' H' m e1 e2 => ?_) s⟩
  have hs : SqL K H' a vs := SqL.of (st G' H' m e1 e2)
  refine ⟨fun hi => ?_, fun hi => ⟨vs, hs, by rw [r.len, hi]; exact Nat.le_refl _⟩, fun d hd hh x H2 hy => ?_⟩
  · obtain ⟨v, hv, _⟩ := r.get (List.getElem?_eq_getElem hi)
    exact ⟨vs, v, hs, hv⟩
  · obtain ⟨rfl, hx⟩ := hy
    obtain ⟨v, hv, rv⟩ := r.get hd
    have := hx vs hs
    rw [hv] at this
    cases this
    exact ⟨G', hh.refl, .t (rv.mono (Ex.refl _) e1)⟩
theorem dm_tup (h : DM A ρ tl fun d => ∃ ds, d = .tup ds ∧ R ds) : DI A true ρ (iTup K tl) R := fun G0 H0 σ G H Rr e q => by
  refine h G0 H0 σ G H _ e fun d v G2 H2 hd rv s => ?_
  obtain ⟨ds, rfl, hr⟩ := hd
  have e2 := e.step s
  obtain ⟨a, vs, rfl, r, st⟩ := lo_tup rv
  refine ⟨_, rfl, ⟨_, SqT.of (st G2 H2 (e2.mns.trans mns_ex) (Ex.refl _) s.h)⟩, q ds _ G2 H2 hr (fun i G' H' m e1 e2 => ?_) s⟩
  have hs : SqT K H' a vs := SqT.of (st G' H' m e1 e2)
  refine ⟨fun hi => ?_, fun hi => ⟨vs, hs, by rw [r.len, hi]; exact Nat.le_refl _⟩, fun d hd hh x H2 hy => ?_⟩
  · obtain ⟨v, hv, _⟩ := r.get (List.getElem?_eq_getElem hi)
    exact ⟨vs, v, hs, hv⟩
  · obtain ⟨rfl, hx⟩ := hy
    obtain ⟨v, hv, rv⟩ := r.get hd
    have := hx vs hs
    rw [hv] at this
    cases this
    exact ⟨G', hh.refl, .t (rv.mono (Ex.refl _) e1)⟩
theorem di_orL {w w' : TI} (h : DI A l ρ w R) : DI A l ρ (fun σ H Q => w σ H Q ∨ w' σ H Q) R := fun G0 H0 σ G H Rr e q => .inl (h G0 H0 σ G H Rr e q)
theorem di_orR {w w' : TI} (h : DI A l ρ w' R) : DI A l ρ (fun σ H Q => w σ H Q ∨ w' σ H Q) R := fun G0 H0 σ G H Rr e q => .inr (h G0 H0 σ G H Rr e q)
def rngD (lo : Int) (n : Nat) : List D := (List.range n).map fun (i : Nat) => D.int (lo + (i : Int))
theorem rngD_len (lo : Int) (n : Nat) : (rngD lo n).length = n := by unfold rngD; simp
theorem rngD_get {lo : Int} {n i : Nat} {d : D} (h : (rngD lo n)[i]? = some d) : d = .int (lo + (i : Int)) := by
  unfold rngD at h
  rw [List.getElem?_map] at h
  cases q : (List.range n)[i]? with
  | none => rw [q] at h; cases h
  | some k =>
    rw [q] at h
    have : i = k := by
      rw [List.getElem?_range (by have := (List.getElem?_eq_some_iff.mp q).1; simpa using this)] at q
      exact Option.some.inj q
    subst this
    exact (Option.some.inj h).symm
theorem itd_rng {G : Hp} (lo : Int) (n : Nat) : ItD A l H0 (Itr lo n) G (rngD lo n) := fun i G' H' m e1 e2 => by
  rw [rngD_len]
  refine ⟨fun h => h, fun h => Nat.le_of_eq h.symm, fun d hd hh x H2 hy => ?_⟩
  obtain ⟨rfl, rfl⟩ := hy
  rw [rngD_get hd]
  exact ⟨G', hh.refl, .of (.int _)⟩
theorem di_rng1 (h : DA A ρ tg fun vs => ∃ j : Int, vs = [.int j] ∧ -(2 ^ 62) ≤ j ∧ j < 2 ^ 62 ∧ R (rngD 0 j.toNat)) : DI A l ρ (iRng1 tg) R := fun G0 H0 σ G H Rr e q => by
  refine h G0 H0 σ G H _ e fun ds vs G2 H2 hd rv s => ?_
  obtain ⟨j, rfl, h1, h2, hr⟩ := hd
  cases rv with
  | cons r rr =>
    cases rr; cases r
    exact ⟨j, rfl, h1, h2, q _ _ G2 H2 hr (itd_rng 0 j.toNat) s⟩

/-! ### targets -/
/-- v, standing for d, is stored: the slots js may change -/
def DG (A : Amb) (l : Bool) (js : List Nat) (ρ : Ro) (g : TG) (d : D) (ρ' : Ro) : Prop := ∀ G0 H0 σ G H v (Q : L2.St → Hp → Prop), Here A G0 H0 ρ σ G H → Vt A l H0 G H d v →
  (∀ σ', Here A G0 H0 ρ' σ' G H → wipe σ' js = wipe σ js → Q σ' H) → g v σ H Q
def sl (l : Bool) (d : D) : Option Sl := if l = true then some (Sl.arg d) else some (Sl.val d)
/-- items that are no containers are data all the same -/
def slF (l : Bool) (d : D) : Option Sl := if l = true then (if leaf d = true then some (Sl.val d) else some (Sl.arg d)) else some (Sl.val d)
theorem wipe1 {σ : L2.St} {i : Nat} {x : Option V} : wipe (σ.set i x) [i] = wipe σ [i] := by
  show (σ.set i x).set i none = σ.set i none
  rw [List.set_set]
theorem dg_name {i : Nat} {d : D} : DG A false [i] ρ (gName i) d (ρ.set i (some (Sl.val d))) := fun G0 H0 σ G H v Q e r q => q _ (e.set i (by unfold Vt at r; rw [if_neg Bool.false_ne_true] at r; exact r)) wipe1
/-- one that came loose: (not a pair that an iterator made) -/
theorem dg_nameL {i : Nat} {d : D} (h : leaf d = true) : DG A true [i] ρ (gName i) d (ρ.set i (some (Sl.val d))) := fun G0 H0 σ G H v Q e r q => q _ (e.set i (by
  unfold Vt at r
  rw [if_pos rfl] at r
  rcases r with r | ⟨_, _, _, rfl, _⟩
  · exact r.leaf h
  · cases h)) wipe1
theorem dg_nameA {i : Nat} {d : D} (h : ∀ ds, d ≠ .tup ds) : DG A true [i] ρ (gName i) d (ρ.set i (some (Sl.arg d))) := fun G0 H0 σ G H v Q e r q => q _ (e.setA i (by
  unfold Vt at r
  rw [if_pos rfl] at r
  rcases r with r | ⟨_, _, _, rfl, _⟩
  · exact r
  · exact absurd rfl (h _))) wipe1
/-- a loose item is stored: as data where it is no container -/
theorem Here.setL {G0 H0 G H : Hp} {σ : L2.St} (e : Here A G0 H0 ρ σ G H) (i : Nat) {d : D} {v : V} (r : Lo A.C (GD.mns A.P H0) G d v) : Here A G0 H0 (ρ.set i (slF true d)) (σ.set i (some v)) G H := by
  unfold slF
  rw [if_pos rfl]
  split
  · rename_i h
    exact e.set i (r.leaf h)
  · exact e.setA i r
theorem wipe2 {σ : L2.St} {i j : Nat} {x y : Option V} : wipe ((σ.set i x).set j y) [i, j] = wipe σ [i, j] := by
  show (((σ.set i x).set j y).set j none).set i none = (σ.set j none).set i none
  rw [List.set_set]
  by_cases h : i = j
  · subst h; rw [List.set_set, List.set_set, List.set_set]
  · rw [List.set_comm _ _ h, List.set_set]
theorem dg_tup2 {i j : Nat} {d e : D} : DG A false [i, j] ρ (gTup K 2 (gCons (gName i) (gCons (gName j) gNil))) (.tup [d, e]) ((ρ.set i (some (Sl.val d))).set j (some (Sl.val e))) := fun G0 H0 σ G H v Q h r q => by
  unfold Vt at r
  rw [if_neg Bool.false_ne_true] at r
  cases r with
  | tup h1 r =>
    cases r with
    | cons r1 r =>
      cases r with
      | cons r2 r =>
        cases r
        exact ⟨_, _, rfl, SqT.of (h.st.h _ _ h1), rfl, _, _, rfl, _, _, rfl, rfl, q _ ((h.set i r1).set j r2) wipe2⟩
theorem dg_tup2L {i j : Nat} {d e : D} : DG A true [i, j] ρ (gTup K 2 (gCons (gName i) (gCons (gName j) gNil))) (.tup [d, e]) ((ρ.set i (slF true d)).set j (slF true e)) := fun G0 H0 σ G H v Q h r q => by
  unfold Vt at r
  rw [if_pos rfl] at r
  obtain ⟨a, vs, rfl, ha, rl⟩ : ∃ a vs, v = .ref a ∧ H a = some (.tup vs) ∧ LoL A.C (mns A.P H0) G [d, e] vs := by
    rcases r with r | ⟨a, vs, ds, z, rfl, ha, rl⟩
    · obtain ⟨a, vs, rfl, rl, st⟩ := lo_tup r
      exact ⟨a, vs, rfl, st G H (h.mns.trans mns_ex) (Ex.refl _) h.st.h, rl⟩
    · cases z; exact ⟨a, vs, rfl, ha, rl⟩
  cases rl with
  | cons r1 r =>
    cases r with
    | cons r2 r =>
      cases r
      exact ⟨_, _, rfl, SqT.of ha, rfl, _, _, rfl, _, _, rfl, rfl, q _ ((h.setL i r1).setL j r2) wipe2⟩
theorem wipe3 {σ : L2.St} {i j k : Nat} {x y z : Option V} : wipe (((σ.set i x).set j y).set k z) [i, j, k] = wipe σ [i, j, k] := by
  show (((((σ.set i x).set j y).set k z).set k none).set j none).set i none = ((σ.set k none).set j none).set i none
  apply List.ext_getElem?
  intro n
  simp only [List.getElem?_set, List.length_set]
  repeat' split
  all_goals first | rfl | omega | simp_all
theorem dg_tup3 {i j k : Nat} {d e f : D} : DG A false [i, j, k] ρ (gTup K 3 (gCons (gName i) (gCons (gName j) (gCons (gName k) gNil)))) (.tup [d, e, f]) (((ρ.set i (some (Sl.val d))).set j (some (Sl.val e))).set k (some (Sl.val f))) := fun G0 H0 σ G H v Q h r q => by
  unfold Vt at r
  rw [if_neg Bool.false_ne_true] at r
  cases r with
  | tup h1 r =>
    cases r with
    | cons r1 r =>
      cases r with
      | cons r2 r =>
        cases r with
        | cons r3 r =>
          cases r
          exact ⟨_, _, rfl, SqT.of (h.st.h _ _ h1), rfl, _, _, rfl, _, _, rfl, _, _, rfl, rfl, q _ (((h.set i r1).set j r2).set k r3) wipe3⟩

/-! ### comprehensions -/
def wipeR (ρ : Ro) : List Nat → Ro
  | [] => ρ
  | v :: vs => (wipeR ρ vs).set v none
theorem Here.wipe {G0 H0 G H : Hp} {σ : L2.St} (h : Here A G0 H0 ρ σ G H) : ∀ js : List Nat, Here A G0 H0 (wipeR ρ js) (L2.wipe σ js) G H
  | [] => h
  | j :: js => (h.wipe js).drop j none
/-- [e for g in wi if t]: rows of results, told turn by turn by I: what is made of the first i items -/
theorem df_lc {wi : TI} {g : TG} {tt : TT} {js : List Nat} {S : List D → Prop} (I : List D → Nat → List D → Prop) (h : DI A l ρ wi fun ds => ds.length ≤ sizeLine ∧ I ds 0 [] ∧
    (∀ i d es, ds[i]? = some d → I ds i es → es.length ≤ i → ∃ ρ', DG A l js (wipeR ρ js) g d ρ' ∧ DT A ρ' tt fun b => (b = true → DE A ρ' te fun y => I ds (i + 1) (es ++ [y])) ∧ (b = false → I ds (i + 1) es)) ∧
    ∀ es, I ds ds.length es → S es) : DF A ρ (tLc wi g tt te js) S := fun G0 H0 σ G H Q e q => by
  refine h G0 H0 σ G H _ e fun ds J G1 H1 hd J1 s1 => ?_
  obtain ⟨hsz, hI0, hturn, hend⟩ := hd
  intro a na
  have e1 := e.step s1
  have hp : H a = none := by
    cases hh : H a with
    | none => rfl
    | some o =>
      by_cases z : some a = A.P
      · obtain ⟨_, o', ho, _⟩ := s1.p a z.symm
        rw [na] at ho; cases ho
      · have := s1.k a o hh z
        rw [na] at this; cases this
  have ga : G1 a = none := Evl.fresh_back s1.h na
  refine ⟨fun i m H' => m = ds.length - i ∧ i ≤ ds.length ∧ ∃ es vs G', I ds i es ∧ es.length ≤ i ∧ A.St G1 H1 G' H' ∧ G' a = none ∧ H' a = some (.lst vs) ∧ RepL A.C G' es vs, ⟨_, rfl, Nat.zero_le _, [], [], G1, hI0, Nat.le_refl _, s1.has.grow (Ex.new na), ga, upd_same, .nil⟩, ?_⟩
  rintro i m H' ⟨rfl, hi, es, vs, G', hI, hl, st, ga', ha', rl⟩
  have e2 := e1.step st
  obtain ⟨j1, j2, j3⟩ := J1 i G' H' (e2.mns.trans mns_ex) st.g st.h
  rcases Nat.lt_or_ge i ds.length with hlt | hge
  · refine .inr ⟨j1 hlt, fun H2 => ∃ es vs G2, I ds (i + 1) es ∧ es.length ≤ i + 1 ∧ A.St G1 H1 G2 H2 ∧ G2 a = none ∧ H2 a = some (.lst vs) ∧ RepL A.C G2 es vs, ?_, ?_⟩
    · rintro H2 ⟨es2, vs2, G2, k1, k2, k3, k4, k5, k6⟩
      exact ⟨_, by omega, rfl, by omega, es2, vs2, G2, k1, k2, k3, k4, k5, k6⟩
    · intro x H2 hy
      obtain ⟨G2, s2, rx⟩ := j3 _ (List.getElem?_eq_getElem hlt) st.has x H2 hy
      have e3 := e2.step s2
      obtain ⟨ρ', dg, dt⟩ := hturn i _ es (List.getElem?_eq_getElem hlt) hI hl
      refine dg G0 H0 _ G2 H2 x _ (e3.wipe js) rx fun σ' e4 hw => ⟨?_, ?_⟩
      · rw [hw, wipe_wipe]
      · have keep : ∀ {G3 H3 : Hp}, A.St G2 H2 G3 H3 → G3 a = none ∧ H3 a = some (.lst vs) ∧ RepL A.C G3 es vs := fun {G3 H3} s3 => by
          have s23 := s2.trans s3
          refine ⟨s23.f a _ ga' ha' (fun _ z => nomatch z), s23.k a _ ha' fun z => ?_, rl.mono s23.g⟩
          obtain ⟨_, o', ho, _⟩ := s1.p a z.symm
          rw [na] at ho; cases ho
        refine dt G0 H0 σ' G2 H2 _ e4 fun b G3 H3 hb s3 => ?_
        cases b with
        | false =>
          obtain ⟨k4, k5, k6⟩ := keep s3
          exact ⟨es, vs, G3, hb.2 rfl, by omega, (st.trans s2).trans s3, k4, k5, k6⟩
        | true =>
          refine hb.1 rfl G0 H0 σ' G3 H3 _ (e4.step s3) fun d v G4 H4 hd rv s4 => ?_
          obtain ⟨k4, k5, k6⟩ := keep (s3.trans s4)
          refine ⟨vs, k5, by rw [rl.len]; omega, es ++ [d], vs ++ [v], G4, hd, by rw [List.length_append]; simp; omega, ?_, k4, upd_same, k6.snoc rv⟩
          have s14 := ((st.trans s2).trans s3).trans s4
          refine ⟨s14.g, fun b o hb => ?_, fun b o hb hP => ?_, s14.f, fun b hb => ?_⟩
          · rw [upd_ne (ne_of_none hb k4)]; exact s14.h b o hb
          · rw [upd_ne (ne_of_none hb na)]; exact s14.k b o hb hP
          · obtain ⟨z1, o', z2, z3⟩ := s14.p b hb
            refine ⟨z1, o', ?_, z3⟩
            rw [upd_ne (a := a) (b := b) (fun z => ?_)]
            · exact z2
            · subst z
              obtain ⟨_, o2, ho2, _⟩ := s1.p b hb
              rw [na] at ho2; cases ho2
  · refine .inl ⟨j2 (by omega), ?_⟩
    have : i = ds.length := by omega
    subst this
    exact q es a vs G' H' (hend es hI) hp ga' ha' rl (s1.trans st)
where
  wipe_wipe {σ : L2.St} {js : List Nat} : wipe (wipe σ js) js = wipe σ js := by
    apply List.ext_getElem?
    intro n
    by_cases h : n ∈ js
    · have h1 : ∀ τ : L2.St, τ.length = σ.length → (wipe τ js)[n]? = if n < σ.length then some none else none := fun τ hτ => by
        split
        · rename_i hn
          have hl : n < (wipe τ js).length := by rw [wipe_length, hτ]; exact hn
          rw [List.getElem?_eq_getElem hl]
          cases q : (wipe τ js)[n] with
          | none => rfl
          | some x =>
            have : (wipe τ js)[n]? = some (some x) := by rw [List.getElem?_eq_getElem hl, q]
            exact absurd h (wipe_some this).2
        · exact List.getElem?_eq_none (by rw [wipe_length, hτ]; omega)
      rw [h1 (wipe σ js) (wipe_length σ js), h1 σ rfl]
    · rw [wipe_out h]
/-! ### pairs that an iterator makes -/
theorem pair_new {G H : Hp} {x y : D} {v w : V} {T : Addr} {l : Bool} (hs : Has A.P A.W G H) (n : H T = none) (h1 : if l = true then Lo A.C (mns A.P H0) G x v else Rep A.C G x v) (h2 : if l = true then Lo A.C (mns A.P H0) G y w else Rep A.C G y w) :
    ∃ G2, A.St G H G2 (upd H T (.tup [v, w])) ∧ Vt A l H0 G2 (upd H T (.tup [v, w])) (.tup [x, y]) (.ref T) := by
  cases l with
  | true =>
    rw [if_pos rfl] at h1 h2
    exact ⟨G, hs.grow (Ex.new n), .pair upd_same (.cons h1 (.cons h2 .nil))⟩
  | false =>
    rw [if_neg Bool.false_ne_true] at h1 h2
    have s := hs.new (o := .tup [v, w]) n
    exact ⟨_, s, .f (.tup upd_same (.cons (h1.mono s.g) (.cons (h2.mono s.g) .nil)))⟩
/-- what stands for a walk: lists, tuples, wherever -/
def Wk (A : Amb) (l : Bool) (H0 G : Hp) (ds : List D) (a : Addr) (tp : Bool) : Prop := ∃ vs, (if l = true then LoL A.C (mns A.P H0) G ds vs else RepL A.C G ds vs) ∧ ∀ G' H', Ex (mns A.P H0) H' → Ex G G' → Ex G' H' → H' a = some (if tp then .tup vs else .lst vs)
theorem Wk.get {G G' : Hp} {ds : List D} {vs : List V} {i : Nat} {d : D} {l : Bool} (h : if l = true then LoL A.C (mns A.P H0) G ds vs else RepL A.C G ds vs) (e : Ex G G') (hd : ds[i]? = some d) : ∃ v, vs[i]? = some v ∧ if l = true then Lo A.C (mns A.P H0) G' d v else Rep A.C G' d v := by
  cases l with
  | true =>
    rw [if_pos rfl] at h
    obtain ⟨v, h1, h2⟩ := h.get hd
    exact ⟨v, h1, by rw [if_pos rfl]; exact h2.mono (Ex.refl _) e⟩
  | false =>
    rw [if_neg Bool.false_ne_true] at h
    obtain ⟨v, h1, h2⟩ := h.get hd
    exact ⟨v, h1, by rw [if_neg Bool.false_ne_true]; exact h2.mono e⟩
theorem Wk.len {G : Hp} {ds : List D} {vs : List V} {l : Bool} (h : if l = true then LoL A.C (mns A.P H0) G ds vs else RepL A.C G ds vs) : vs.length = ds.length := by
  cases l with
  | true => rw [if_pos rfl] at h; exact h.len
  | false => rw [if_neg Bool.false_ne_true] at h; exact h.len
theorem wk_rep {G : Hp} {d : D} {v : V} {ds : List D} {tp : Bool} (h : d = if tp then .tup ds else .lst ds) (r : Rep A.C G d v) : ∃ a, v = .ref a ∧ Wk A false H0 G ds a tp := by
  cases tp with
  | true =>
    rw [h] at r
    cases r with
    | tup h1 r => exact ⟨_, rfl, _, by rw [if_neg Bool.false_ne_true]; exact r, fun G' H' _ e1 e2 => e2 _ _ (e1 _ _ h1)⟩
  | false =>
    rw [h] at r
    cases r with
    | lst h1 r => exact ⟨_, rfl, _, by rw [if_neg Bool.false_ne_true]; exact r, fun G' H' _ e1 e2 => e2 _ _ (e1 _ _ h1)⟩
theorem wk_lo {G : Hp} {d : D} {v : V} {ds : List D} {tp : Bool} (h : d = if tp then .tup ds else .lst ds) (r : Lo A.C (mns A.P H0) G d v) : ∃ a, v = .ref a ∧ Wk A true H0 G ds a tp := by
  cases tp with
  | true =>
    rw [h] at r
    obtain ⟨a, vs, rfl, rl, st⟩ := lo_tup r
    exact ⟨a, rfl, vs, by rw [if_pos rfl]; exact rl, st⟩
  | false =>
    rw [h] at r
    obtain ⟨a, vs, rfl, rl, st⟩ := lo_list r
    exact ⟨a, rfl, vs, by rw [if_pos rfl]; exact rl, st⟩
def enumD (ds : List D) : List D := (List.range ds.length).zipWith (fun i d => .tup [.int (i : Nat), d]) ds
theorem enumD_len (ds : List D) : (enumD ds).length = ds.length := by unfold enumD; simp
theorem enumD_get {ds : List D} {i : Nat} {d : D} (h : (enumD ds)[i]? = some d) : ∃ e, ds[i]? = some e ∧ d = .tup [.int (i : Nat), e] := by
  unfold enumD at h
  rw [List.getElem?_zipWith] at h
  have hi : i < ds.length := by
    cases q : ds[i]? with
    | none =>
      rw [q] at h
      cases q2 : (List.range ds.length)[i]? <;> rw [q2] at h <;> cases h
    | some e => exact (List.getElem?_eq_some_iff.mp q).1
  rw [List.getElem?_range hi, List.getElem?_eq_getElem hi] at h
  exact ⟨_, List.getElem?_eq_getElem hi, (Option.some.inj h).symm⟩
def zipD (ds es : List D) : List D := List.zipWith (fun d e => .tup [d, e]) ds es
theorem zipD_get {ds es : List D} {i : Nat} {d : D} (h : (zipD ds es)[i]? = some d) : ∃ a b, ds[i]? = some a ∧ es[i]? = some b ∧ d = .tup [a, b] := by
  unfold zipD at h
  rw [List.getElem?_zipWith] at h
  cases q : ds[i]? with
  | none => rw [q] at h; cases h
  | some a =>
    cases q2 : es[i]? with
    | none => rw [q, q2] at h; cases h
    | some b => rw [q, q2] at h; exact ⟨a, b, rfl, rfl, (Option.some.inj h).symm⟩
/-! ### what is new -/
section
variable {A : Amb} {l : Bool} {ρ : Ro} {te ta tb : TE} {tl tr : TA} {R : D → Prop} {K : PySem.W.Frag}
theorem DN.imp {R1 : D → Prop} (h : DN A ρ te R) (k : ∀ d, R d → R1 d) : DN A ρ te R1 := fun G0 H0 σ G H Q e q => h G0 H0 σ G H Q e fun d v G2 H2 r => q d v G2 H2 (k d r)
theorem dn_leaf (h : DE A ρ te fun d => leaf d = true ∧ R d) : DN A ρ te R := fun G0 H0 σ G H Q e q => h G0 H0 σ G H Q e fun d v G2 H2 r rv s => q d v G2 H2 r.2 (.leaf r.1 rv) s
theorem dn_df (h : DF A ρ te fun ds => (∀ d ∈ ds, leaf d = true) ∧ R (.lst ds)) : DN A ρ te R := fun G0 H0 σ G H Q e q => h G0 H0 σ G H Q e fun ds a vs G2 H2 r n g hl rl s => q _ _ G2 H2 r.2 (.lst n g hl (FrL.leaves rl r.1)) s
/-- .. and it is data for whoever only reads it -/
theorem DN.de (h : DN A ρ te R) : DE A ρ te R := fun G0 H0 σ G H Q e q => h G0 H0 σ G H Q e fun d v G2 H2 r rv s => q d v _ H2 r (rv.frz s.h) (s.frz e.has)
theorem dna_nil {S : List D → Prop} (h : S []) : DNA A ρ tNil S := fun G0 H0 σ G H Q e q => q [] [] G H h .nil e.has.refl
theorem Has.some' {P : Option Addr} {W : HO → Prop} {G H : Hp} (h : Has P W G H) : (∀ b, P = some b → H b ≠ Option.none) ∧ ∀ b, P = some b → ∃ o, H b = some o ∧ NT o :=
  ⟨fun b e z => (by obtain ⟨_, o, ho, _⟩ := h.2 b e; rw [z] at ho; exact nomatch ho), fun b e => let ⟨_, o, ho, _, nt⟩ := h.2 b e; ⟨o, ho, nt⟩⟩
theorem dna_cons {S : List D → Prop} (h : DN A ρ ta fun x => DNA A ρ tr fun xs => S (x :: xs)) : DNA A ρ (tCons ta tr) S := fun G0 H0 σ G H Q e q => by
  refine h G0 H0 σ G H _ e fun x v G2 H2 rx hv s2 => ?_
  refine rx G0 H0 σ G2 H2 _ (e.step s2) fun xs ws G3 H3 ry hw s3 => ?_
  exact q (x :: xs) (v :: ws) G3 H3 ry (.cons (hv.step s2.has.some'.2 s3 e.has.some'.1) (hw.weak (s2.back fun b z => let ⟨o, ho, _⟩ := s2.has.some'.2 b z; ⟨o, ho⟩))) (s2.trans s3)
theorem dn_tup (h : DNA A ρ tl fun ds => ds.length ≤ sizeLine ∧ R (.tup ds)) : DN A ρ (tTup tl) R := fun G0 H0 σ G H Q e q => by
  refine h G0 H0 σ G H _ e fun ds vs G2 H2 hd r s2 => ⟨by rw [r.len]; exact hd.1, fun p np => ?_⟩
  have s3 := s2.has.grow (Ex.new (o := .tup vs) np)
  exact q _ _ G2 _ hd.2 (.tup upd_same (r.step s2.has.some'.2 s3 e.has.some'.1)) (s2.trans s3)
theorem dn_lst (h : DNA A ρ tl fun ds => ds.length ≤ sizeLine ∧ R (.lst ds)) : DN A ρ (tLst tl) R := fun G0 H0 σ G H Q e q => by
  refine h G0 H0 σ G H _ e fun ds vs G2 H2 hd r s2 => ⟨by rw [r.len]; exact hd.1, fun p np => ?_⟩
  have s3 := s2.has.grow (Ex.new (o := .lst vs) np)
  exact q _ _ G2 _ hd.2 (.lst (s2.back (fun b z => let ⟨o, ho, _⟩ := s2.has.some'.2 b z; ⟨o, ho⟩) p np) (Evl.fresh_back s2.h np) upd_same ((r.add np).step s2.has.some'.2 s3 (upd_nn e.has.some'.1))) (s2.trans s3)
/-- a call that hands back what is new -/
theorem dn_call {pre : List D → Prop} {post : List D → D → Prop} {dvs : List V} {des : List D} {E : XK} (hd : ∀ G, RepL A.C G des dvs) (h : DLA A ρ tl fun ds => pre (ds ++ des) ∧ ∀ d, post (ds ++ des) d → R d) : DN A ρ (tCall (spF A.C pre post) dvs E tl) R := fun G0 H0 σ G H Q e q => by
  refine h G0 H0 σ G H _ e fun ds vs G2 H2 hp r s2 => ⟨G2, ds ++ des, s2.h, (r.append (LoL.of (hd G2))).mono mns_none (Ex.refl _), hp.1, fun d v G3 H3 hd r3 s3 => ?_⟩
  exact q d v G3 H3 (hp.2 d hd) (r3.weak (s2.back fun b z => let ⟨o, ho, _⟩ := s2.has.some'.2 b z; ⟨o, ho⟩)) (s2.trans ((e.step s2).pure s3))
theorem dn_meth {m : Str} {c : Nat} {pre : List D → Prop} {post : List D → D → Prop} {dvs : List V} {des : List D} {E : XK} (hm : m ∉ (A.C c).2) (hd : ∀ G, RepL A.C G des dvs)
    (h : DE A ρ ta fun x => ∃ es, x = .ins c es ∧ DLA A ρ tl fun ds => pre (x :: (ds ++ des)) ∧ ∀ d, post (x :: (ds ++ des)) d → R d) : DN A ρ (tMeth (A.C c).1 m (spF A.C pre post) dvs E ta tl) R := fun G0 H0 σ G H Q e q => by
  refine h G0 H0 σ G H _ e fun x v G2 H2 hx hv s2 => ?_
  obtain ⟨es, rfl, hx⟩ := hx
  cases id hv with
  | ins h1 r _ =>
    refine ⟨_, _, _, rfl, s2.h _ _ h1, by rw [lookup_fsOf_out hm]; rfl, ?_⟩
    refine hx G0 H0 σ G2 H2 _ (e.step s2) fun ds vs G3 H3 hp r3 s3 => ⟨G3, _, s3.h, .cons (.of (hv.mono s3.g)) ((r3.append (LoL.of (hd G3))).mono mns_none (Ex.refl _)), hp.1, fun d v G4 H4 hd r4 s4 => ?_⟩
    have s23 := s2.trans s3
    exact q d v G4 H4 (hp.2 d hd) (r4.weak (s23.back fun b z => let ⟨o, ho, _⟩ := s23.has.some'.2 b z; ⟨o, ho⟩)) (s23.trans (((e.step s2).step s3).pure s4))
/-- [e for g in wi], e new at each turn -/
theorem dn_lc {wi : TI} {g : TG} {tt : TT} {js : List Nat} (I : List D → Nat → List D → Prop) (h : DI A l ρ wi fun ds => ds.length ≤ sizeLine ∧ I ds 0 [] ∧
    (∀ i d es, ds[i]? = some d → I ds i es → es.length ≤ i → ∃ ρ', DG A l js (wipeR ρ js) g d ρ' ∧ DT A ρ' tt fun b => (b = true → DN A ρ' te fun y => I ds (i + 1) (es ++ [y])) ∧ (b = false → I ds (i + 1) es)) ∧
    ∀ es, I ds ds.length es → R (.lst es)) : DN A ρ (tLc wi g tt te js) R := fun G0 H0 σ G H Q e q => by
  refine h G0 H0 σ G H _ e fun ds J G1 H1 hd J1 s1 => ?_
  obtain ⟨hsz, hI0, hturn, hend⟩ := hd
  intro a na
  have e1 := e.step s1
  have ex1 : ∀ b, A.P = some b → ∃ o, H1 b = some o := fun b z => let ⟨o, ho, _⟩ := s1.has.some'.2 b z; ⟨o, ho⟩
  have hp : H a = none := s1.back ex1 a na
  have ga : G1 a = none := Evl.fresh_back s1.h na
  have pH1 : ∀ b, A.P = some b → upd H1 a (.lst []) b ≠ none := fun b z w => by
    have n0 := s1.has.some'.1 b z
    by_cases hb : b = a
    · subst hb; exact n0 na
    · rw [upd_ne hb] at w; exact n0 w
  have u1 : ∀ b, upd H1 a (.lst []) b = none → H1 b = none ∧ b ≠ a := fun b w => by
    by_cases hb : b = a
    · subst hb; rw [upd_same] at w; cases w
    · rw [upd_ne hb] at w; exact ⟨w, hb⟩
  refine ⟨fun i m H' => m = ds.length - i ∧ i ≤ ds.length ∧ ∃ es vs G', I ds i es ∧ es.length ≤ i ∧ A.St G1 H1 G' H' ∧ G' a = none ∧ H' a = some (.lst vs) ∧ FrL A.C G' H' (upd H1 a (.lst [])) es vs, ⟨_, rfl, Nat.zero_le _, [], [], G1, hI0, Nat.le_refl _, s1.has.grow (Ex.new na), ga, upd_same, .nil⟩, ?_⟩
  rintro i m H' ⟨rfl, hi, es, vs, G', hI, hl, st, ga', ha', rl⟩
  have e2 := e1.step st
  obtain ⟨j1, j2, j3⟩ := J1 i G' H' (e2.mns.trans mns_ex) st.g st.h
  rcases Nat.lt_or_ge i ds.length with hlt | hge
  · refine .inr ⟨j1 hlt, fun H2 => ∃ es vs G2, I ds (i + 1) es ∧ es.length ≤ i + 1 ∧ A.St G1 H1 G2 H2 ∧ G2 a = none ∧ H2 a = some (.lst vs) ∧ FrL A.C G2 H2 (upd H1 a (.lst [])) es vs, ?_, ?_⟩
    · rintro H2 ⟨es2, vs2, G2, k1, k2, k3, k4, k5, k6⟩
      exact ⟨_, by omega, rfl, by omega, es2, vs2, G2, k1, k2, k3, k4, k5, k6⟩
    · intro x H2 hy
      obtain ⟨G2, s2, rx⟩ := j3 _ (List.getElem?_eq_getElem hlt) st.has x H2 hy
      have e3 := e2.step s2
      obtain ⟨ρ', dg, dt⟩ := hturn i _ es (List.getElem?_eq_getElem hlt) hI hl
      refine dg G0 H0 _ G2 H2 x _ (e3.wipe js) rx fun σ' e4 hw => ⟨?_, ?_⟩
      · rw [hw, df_lc.wipe_wipe]
      · have keep : ∀ {G3 H3 : Hp}, A.St G2 H2 G3 H3 → G3 a = none ∧ H3 a = some (.lst vs) ∧ FrL A.C G3 H3 (upd H1 a (.lst [])) es vs := fun {G3 H3} s3 => by
          have s23 := s2.trans s3
          have z := fr_l (P := A.P) s1.has.some'.1 s23 na ga' ha'
          exact ⟨z.1, z.2, rl.step st.has.some'.2 s23 pH1⟩
        refine dt G0 H0 σ' G2 H2 _ e4 fun b G3 H3 hb s3 => ?_
        cases b with
        | false =>
          obtain ⟨k4, k5, k6⟩ := keep s3
          exact ⟨es, vs, G3, hb.2 rfl, by omega, (st.trans s2).trans s3, k4, k5, k6⟩
        | true =>
          refine hb.1 rfl G0 H0 σ' G3 H3 _ (e4.step s3) fun d v G4 H4 hd rv s4 => ?_
          obtain ⟨k4, k5, k6⟩ := keep (s3.trans s4)
          have s14 := ((st.trans s2).trans s3).trans s4
          have s13 := (st.trans s2).trans s3
          have new : Fr A.C G4 H4 (upd H1 a (.lst [])) d v := rv.weak fun b w => by
            have h1 := s13.back (fun b z => let ⟨o, ho, _⟩ := s13.has.some'.2 b z; ⟨o, ho⟩) b w
            rw [upd_ne (fun z => by subst z; rw [(keep s3).2.1] at w; cases w)]
            exact h1
          refine ⟨vs, k5, by rw [rl.len]; omega, es ++ [d], vs ++ [v], G4, hd, by rw [List.length_append]; simp; omega, ?_, k4, upd_same, ?_⟩
          · refine ⟨s14.g, fun b o hb => ?_, fun b o hb hP => ?_, s14.f, fun b hb => ?_⟩
            · rw [upd_ne (ne_of_none hb k4)]; exact s14.h b o hb
            · rw [upd_ne (ne_of_none hb na)]; exact s14.k b o hb hP
            · obtain ⟨z1, o', z2, z3⟩ := s14.p b hb
              refine ⟨z1, o', ?_, z3⟩
              rw [upd_ne (a := a) (b := b) (fun z => ?_)]
              · exact z2
              · subst z
                obtain ⟨_, o2, ho2, _⟩ := s1.p b hb
                rw [na] at ho2; cases ho2
          · exact (k6.snoc new).upd k5 (by rw [upd_same]; exact nofun)
  · refine .inl ⟨j2 (by omega), ?_⟩
    have : i = ds.length := by omega
    subst this
    exact q _ _ G' H' (hend es hI) (.lst hp ga' ha' (rl.weak fun b w => (by rw [upd_ne (u1 b w).2]; exact s1.back ex1 b (u1 b w).1))) (s1.trans st)
end
end
end GD
/-! Statements over data, a def's body. -/
namespace GD
open PySem L2
open Evl (Ex)

/-- what is wanted behind a statement, by data -/
structure Nd where
  nx : Ro → Prop
  rt : D → Prop
  rn : D → Prop := fun _ => False
  bk : Ro → Prop := fun _ => False
  ct : Ro → Prop := fun _ => False
def DS (A : Amb) (ρ : Ro) (ts : TS) (N : Nd) : Prop := ∀ G0 H0 σ G H (E : Ends), Here A G0 H0 ρ σ G H →
  (∀ ρ' σ' G' H', N.nx ρ' → Here A G0 H0 ρ' σ' G' H' → Ex G G' → E.nx σ' H') →
  ((∀ d v G' H', N.rt d → Rep A.C G' d v → A.St G0 H0 G' H' → E.rt v H') ∧ ∀ d v G' H', N.rn d → Fr A.C G' H' H0 d v → A.St G0 H0 G' H' → E.rt v H') →
  (∀ ρ' σ' G' H', N.bk ρ' → Here A G0 H0 ρ' σ' G' H' → Ex G G' → E.bk σ' H') →
  (∀ ρ' σ' G' H', N.ct ρ' → Here A G0 H0 ρ' σ' G' H' → Ex G G' → E.ct σ' H') → ts E σ H
section
variable {A : Amb} {ρ : Ro} {te ta tb tl : TE} {tt : TT} {tg : TA} {ts tu tv : TS} {N : Nd} {R : D → Prop} {K : PySem.W.Frag}
/-- x = e -/
theorem ds_set {i : Nat} (h : DE A ρ te fun d => DS A (ρ.set i (some (Sl.val d))) tu N) : DS A ρ (tSeq (tAsg te (gName i)) tu) N := fun G0 H0 σ G H E e k1 k2 k3 k4 => by
  refine h G0 H0 σ G H _ e fun d v G2 H2 hd rv s => ?_
  have hx := s.g
  exact hd G0 H0 _ G2 H2 E ((e.step s).set i rv) (fun ρ' σ' G' H' n z x => k1 ρ' σ' G' H' n z (hx.trans x)) k2 (fun ρ' σ' G' H' n z x => k3 ρ' σ' G' H' n z (hx.trans x)) (fun ρ' σ' G' H' n z x => k4 ρ' σ' G' H' n z (hx.trans x))
theorem ds_set1 {i : Nat} (h : DE A ρ te fun d => N.nx (ρ.set i (some (Sl.val d)))) : DS A ρ (tAsg te (gName i)) N := fun G0 H0 σ G H E e k1 k2 k3 k4 => by
  refine h G0 H0 σ G H _ e fun d v G2 H2 hd rv s => ?_
  exact k1 _ _ G2 H2 hd ((e.step s).set i rv) s.g
/-- x = e with a target of any form -/
theorem ds_asg {js : List Nat} {g : TG} (h : DE A ρ te fun d => ∃ ρ', DG A false js ρ g d ρ' ∧ DS A ρ' tu N) : DS A ρ (tSeq (tAsg te g) tu) N := fun G0 H0 σ G H E e k1 k2 k3 k4 => by
  refine h G0 H0 σ G H _ e fun d v G2 H2 hd rv s => ?_
  obtain ⟨ρ', dg, hd⟩ := hd
  have hx := s.g
  refine dg G0 H0 σ G2 H2 v _ (e.step s) (.f rv) fun σ' e' _ => ?_
  exact hd G0 H0 _ G2 H2 E e' (fun ρ' σ' G' H' n z x => k1 ρ' σ' G' H' n z (hx.trans x)) k2 (fun ρ' σ' G' H' n z x => k3 ρ' σ' G' H' n z (hx.trans x)) (fun ρ' σ' G' H' n z x => k4 ρ' σ' G' H' n z (hx.trans x))
/-- x, y = e, f -/
theorem ds_par {i j : Nat} (h : DA A ρ tg fun ds => ∃ d e, ds = [d, e] ∧ DS A ((ρ.set i (some (Sl.val d))).set j (some (Sl.val e))) tu N) : DS A ρ (tSeq (tPar i j tg) tu) N := fun G0 H0 σ G H E e k1 k2 k3 k4 => by
  refine h G0 H0 σ G H _ e fun ds vs G2 H2 hd rv s => ?_
  obtain ⟨d, f, rfl, hd⟩ := hd
  have hx := s.g
  cases rv with
  | cons r1 r =>
    cases r with
    | cons r2 r =>
      cases r
      refine ⟨_, _, rfl, ?_⟩
      exact hd G0 H0 _ G2 H2 E (((e.step s).set i r1).set j r2) (fun ρ' σ' G' H' n z x => k1 ρ' σ' G' H' n z (hx.trans x)) k2 (fun ρ' σ' G' H' n z x => k3 ρ' σ' G' H' n z (hx.trans x)) (fun ρ' σ' G' H' n z x => k4 ρ' σ' G' H' n z (hx.trans x))
theorem ds_if (h : DT A ρ tt fun b => (b = true → DS A ρ tu N) ∧ (b = false → DS A ρ tv N)) : DS A ρ (tIfS tt tu tv) N := fun G0 H0 σ G H E e k1 k2 k3 k4 => by
  refine h G0 H0 σ G H _ e fun b G2 H2 hb s => ?_
  have hx := s.g
  cases b with
  | true => exact hb.1 rfl G0 H0 σ G2 H2 E (e.step s) (fun ρ' σ' G' H' n z x => k1 ρ' σ' G' H' n z (hx.trans x)) k2 (fun ρ' σ' G' H' n z x => k3 ρ' σ' G' H' n z (hx.trans x)) (fun ρ' σ' G' H' n z x => k4 ρ' σ' G' H' n z (hx.trans x))
  | false => exact hb.2 rfl G0 H0 σ G2 H2 E (e.step s) (fun ρ' σ' G' H' n z x => k1 ρ' σ' G' H' n z (hx.trans x)) k2 (fun ρ' σ' G' H' n z x => k3 ρ' σ' G' H' n z (hx.trans x)) (fun ρ' σ' G' H' n z x => k4 ρ' σ' G' H' n z (hx.trans x))
/-- if .., then what follows -/
theorem ds_ifs (h : DT A ρ tt fun b => (b = true → DS A ρ (tSeq tu ts) N) ∧ (b = false → DS A ρ (tSeq tv ts) N)) : DS A ρ (tSeq (tIfS tt tu tv) ts) N := ds_if (tu := tSeq tu ts) (tv := tSeq tv ts) h
theorem ds_next (h : N.nx ρ) : DS A ρ tNext N := fun G0 H0 σ G H E e k1 k2 k3 k4 => k1 ρ σ G H h e (Ex.refl G)
theorem ds_nexts (h : DS A ρ ts N) : DS A ρ (tSeq tNext ts) N := h
theorem ds_seqs (h : DS A ρ (tSeq tu (tSeq tv ts)) N) : DS A ρ (tSeq (tSeq tu tv) ts) N := h
theorem ds_ret (h : DE A ρ te N.rt) : DS A ρ (tRet te) N := fun G0 H0 σ G H E e k1 k2 k3 k4 =>
  h G0 H0 σ G H _ e fun d v G2 H2 hd rv s => k2.1 d v G2 H2 hd rv (e.st.trans s)
theorem ds_rets (h : DE A ρ te N.rt) : DS A ρ (tSeq (tRet te) ts) N := fun G0 H0 σ G H E e k1 k2 k3 k4 =>
  h G0 H0 σ G H _ e fun d v G2 H2 hd rv s => k2.1 d v G2 H2 hd rv (e.st.trans s)
theorem ds_retN (h : DN A ρ te N.rn) : DS A ρ (tRet te) N := fun G0 H0 σ G H E e k1 k2 k3 k4 =>
  h G0 H0 σ G H _ e fun d v G2 H2 hd rv s => k2.2 d v G2 H2 hd (rv.weak (e.st.back fun b z => let ⟨_, o, ho, _⟩ := e.st.p b z; ⟨o, ho⟩)) (e.st.trans s)
theorem ds_brk (h : N.bk ρ) : DS A ρ tBreak N := fun G0 H0 σ G H E e k1 k2 k3 k4 => k3 ρ σ G H h e (Ex.refl G)
theorem ds_cnt (h : N.ct ρ) : DS A ρ tCont N := fun G0 H0 σ G H E e k1 k2 k3 k4 => k4 ρ σ G H h e (Ex.refl G)
theorem ds_cnts (h : N.ct ρ) : DS A ρ (tSeq tCont ts) N := fun G0 H0 σ G H E e k1 k2 k3 k4 => k4 ρ σ G H h e (Ex.refl G)
/-- a word between -/
theorem ds_cut {M : Ro → Prop} (h : DS A ρ tu { N with nx := M }) (k : ∀ ρ', M ρ' → DS A ρ' tv N) : DS A ρ (tSeq tu tv) N := fun G0 H0 σ G H E e k1 k2 k3 k4 =>
  h G0 H0 σ G H { E with nx := tv E } e (fun ρ' σ' G' H' m e' x => k ρ' m G0 H0 σ' G' H' E e' (fun ρ2 σ2 G2 H2 n z y => k1 ρ2 σ2 G2 H2 n z (x.trans y)) k2 (fun ρ2 σ2 G2 H2 n z y => k3 ρ2 σ2 G2 H2 n z (x.trans y)) (fun ρ2 σ2 G2 H2 n z y => k4 ρ2 σ2 G2 H2 n z (x.trans y))) k2 k3 k4
theorem ds_drop (h : DE A ρ te fun _ => DS A ρ tu N) : DS A ρ (tSeq (tDrop te) tu) N := fun G0 H0 σ G H E e k1 k2 k3 k4 => by
  refine h G0 H0 σ G H _ e fun d v G2 H2 hd rv s => ?_
  have hx := s.g
  exact hd G0 H0 σ G2 H2 E (e.step s) (fun ρ' σ' G' H' n z x => k1 ρ' σ' G' H' n z (hx.trans x)) k2 (fun ρ' σ' G' H' n z x => k3 ρ' σ' G' H' n z (hx.trans x)) (fun ρ' σ' G' H' n z x => k4 ρ' σ' G' H' n z (hx.trans x))
theorem ds_weak {N' : Nd} (h : DS A ρ ts N) (a : ∀ ρ', N.nx ρ' → N'.nx ρ') (b : ∀ d, N.rt d → N'.rt d) (b2 : ∀ d, N.rn d → N'.rn d) (c : ∀ ρ', N.bk ρ' → N'.bk ρ') (d : ∀ ρ', N.ct ρ' → N'.ct ρ') : DS A ρ ts N' := fun G0 H0 σ G H E e k1 k2 k3 k4 =>
  h G0 H0 σ G H E e (fun ρ' σ' G' H' n => k1 ρ' σ' G' H' (a _ n)) ⟨fun x v G' H' n => k2.1 x v G' H' (b _ n), fun x v G' H' n => k2.2 x v G' H' (b2 _ n)⟩ (fun ρ' σ' G' H' n => k3 ρ' σ' G' H' (c _ n)) (fun ρ' σ' G' H' n => k4 ρ' σ' G' H' (d _ n))

/-! ### lists of one's own -/
/-- x = a new list -/
theorem ds_own {i : Nat} (h : DF A ρ te fun ds => DS A (ρ.set i (some (Sl.own ds))) tu N) (fr : ∀ ds, ρ[i]? ≠ some (some (Sl.own ds))) : DS A ρ (tSeq (tAsg te (gName i)) tu) N := fun G0 H0 σ G H E e k1 k2 k3 k4 => by
  refine h G0 H0 σ G H _ e fun ds a vs G2 H2 hd n g ha rl s => ?_
  have e2 := e.step s
  have h0 : H0 a = none := by
    cases q : H0 a with
    | none => rfl
    | some o =>
      by_cases z : some a = A.P
      · obtain ⟨_, o', ho, _⟩ := e.has.2 a z.symm
        rw [n] at ho; cases ho
      · have := e.st.k a o q z
        rw [n] at this; cases this
  have e3 : Here A G0 H0 (ρ.set i (some (Sl.own ds))) (σ.set i (some (.ref a))) G2 H2 := by
    have f := e2.env
    have key : ∀ {j : Nat} {s : Sl}, j ≠ i → (ρ.set i (some (Sl.own ds)))[j]? = some (some s) → ρ[j]? = some (some s) := fun m q => by
      rw [List.getElem?_set_ne (Ne.symm m)] at q; exact q
    have keyσ : ∀ {j : Nat}, j ≠ i → (σ.set i (some (.ref a)))[j]? = σ[j]? := fun m => List.getElem?_set_ne (Ne.symm m)
    have at_ : ∀ {s : Sl}, (ρ.set i (some (Sl.own ds)))[i]? = some (some s) → s = Sl.own ds ∧ i < ρ.length := fun {s} q => by
      by_cases hi : i < ρ.length
      · rw [List.getElem?_set_self hi] at q; cases q; exact ⟨rfl, hi⟩
      · rw [List.getElem?_eq_none (by rw [List.length_set]; omega)] at q; cases q
    have away : ∀ {j : Nat} {es : List D}, j ≠ i → ρ[j]? = some (some (Sl.own es)) → σ[j]? ≠ some (some (.ref a)) := fun {j es} m q z => by
      obtain ⟨b, ws, q1, _, _, q4, _⟩ := e.env.own j es q
      rw [z] at q1
      cases q1
      rw [n] at q4; cases q4
    refine ⟨e2.st, ⟨by rw [List.length_set, List.length_set]; exact f.len, fun j d' q => ?_, fun j es q => ?_, fun j k b es fs q1 q2 q3 q4 => ?_, fun j d' q => ?_, fun j a' dx c es q => ?_, fun j q => ?_⟩, e2.ent⟩
    · have hj : j ≠ i := fun z => by subst z; exact nomatch (at_ q).1
      obtain ⟨w, h1, h2⟩ := f.val j d' (key hj q)
      exact ⟨w, (keyσ hj).trans h1, h2⟩
    · by_cases hj : j = i
      · subst hj
        obtain ⟨z, hi⟩ := at_ q
        cases z
        exact ⟨a, vs, List.getElem?_set_self (by rw [f.len]; exact hi), h0, g, ha, rl⟩
      · obtain ⟨b, ws, h1, h2⟩ := f.own j es (key hj q)
        exact ⟨b, ws, (keyσ hj).trans h1, h2⟩
    · by_cases hj : j = i
      · by_cases hk : k = i
        · rw [hj, hk]
        · subst hj
          rw [List.getElem?_set_self (by rw [f.len]; exact (at_ q1).2)] at q3
          cases q3
          rw [keyσ hk] at q4
          exact (away hk (key hk q2) q4).elim
      · by_cases hk : k = i
        · subst hk
          rw [List.getElem?_set_self (by rw [f.len]; exact (at_ q2).2)] at q4
          cases q4
          rw [keyσ hj] at q3
          exact (away hj (key hj q1) q3).elim
        · rw [keyσ hj] at q3
          rw [keyσ hk] at q4
          exact f.inj j k b es fs (key hj q1) (key hk q2) q3 q4
    · have hj : j ≠ i := fun z => by subst z; exact nomatch (at_ q).1
      obtain ⟨w, h1, h2⟩ := f.arg j d' (key hj q)
      exact ⟨w, (keyσ hj).trans h1, h2⟩
    · have hj : j ≠ i := fun z => by subst z; exact nomatch (at_ q).1
      obtain ⟨i0, ws, h1, h2⟩ := f.ob j a' dx c es (key hj q)
      exact ⟨i0, ws, (keyσ hj).trans h1, h2⟩
    · have hj : j ≠ i := fun z => by subst z; exact nomatch (at_ q).1
      obtain ⟨b, h1, h2⟩ := f.pot j (key hj q)
      exact ⟨b, h1, (keyσ hj).trans h2⟩
  have hx := s.g
  exact hd G0 H0 _ G2 H2 E e3 (fun ρ' σ' G' H' n z x => k1 ρ' σ' G' H' n z (hx.trans x)) k2 (fun ρ' σ' G' H' n z x => k3 ρ' σ' G' H' n z (hx.trans x)) (fun ρ' σ' G' H' n z x => k4 ρ' σ' G' H' n z (hx.trans x))
/-- the own list at i is changed where it stands -/
theorem Here.mut {G0 H0 G H : Hp} {σ : L2.St} {i : Nat} {ds es : List D} {a : Addr} {vs : List V} (e : Here A G0 H0 ρ σ G H) (hi : ρ[i]? = some (some (Sl.own ds))) (hσ : σ[i]? = some (some (.ref a)))
    (rl : RepL A.C G es vs) : Here A G0 H0 (ρ.set i (some (Sl.own es))) σ G (upd H a (.lst vs)) := by
  have f := e.env
  obtain ⟨b, ws, h1, h2, h3, h4, h5⟩ := f.own i ds hi
  rw [hσ] at h1
  cases h1
  have key : ∀ {j : Nat} {s : Sl}, j ≠ i → (ρ.set i (some (Sl.own es)))[j]? = some (some s) → ρ[j]? = some (some s) := fun m q => by
    rw [List.getElem?_set_ne (Ne.symm m)] at q; exact q
  have il : i < ρ.length := (List.getElem?_eq_some_iff.mp hi).1
  have at_ : ∀ {s : Sl}, (ρ.set i (some (Sl.own es)))[i]? = some (some s) → s = Sl.own es := fun {s} q => by
    rw [List.getElem?_set_self il] at q; cases q; rfl
  refine ⟨⟨e.st.g, fun b o q => ?_, fun b o q n => ?_, e.st.f, fun b q => ?_⟩, ⟨by rw [List.length_set]; exact f.len, fun j d' q => ?_, fun j es' q => ?_, fun j k b es' fs q1 q2 q3 q4 => ?_, fun j d' q => ?_, fun j b dx c es' q => ?_, fun j q => ?_⟩, e.ent⟩
  · rw [upd_ne (ne_of_none q h3)]; exact e.st.h b o q
  · rw [upd_ne (ne_of_none q h2)]; exact e.st.k b o q n
  · obtain ⟨z1, o, z2, z3⟩ := e.st.p b q
    refine ⟨z1, o, ?_, z3⟩
    rw [upd_ne (fun z => ?_)]
    · exact z2
    · subst z
      obtain ⟨_, o', ho, _⟩ := e.ent.2 b q
      rw [h2] at ho; cases ho
  · have hj : j ≠ i := fun z => by subst z; exact nomatch at_ q
    exact f.val j d' (key hj q)
  · by_cases hj : j = i
    · subst hj
      cases at_ q
      exact ⟨a, vs, hσ, h2, h3, upd_same, rl⟩
    · obtain ⟨b, ws', k1, k2, k3, k4, k5⟩ := f.own j es' (key hj q)
      refine ⟨b, ws', k1, k2, k3, ?_, k5⟩
      rw [upd_ne (fun z => ?_)]
      · exact k4
      · subst z
        exact hj (f.inj j i b es' ds (key hj q) hi k1 hσ)
  · by_cases hj : j = i
    · by_cases hk : k = i
      · rw [hj, hk]
      · subst hj
        exact f.inj j k b ds fs hi (key hk q2) q3 q4
    · by_cases hk : k = i
      · subst hk
        exact f.inj j k b es' ds (key hj q1) hi q3 q4
      · exact f.inj j k b es' fs (key hj q1) (key hk q2) q3 q4
  · have hj : j ≠ i := fun z => by subst z; exact nomatch at_ q
    exact f.arg j d' (key hj q)
  · have hj : j ≠ i := fun z => by subst z; exact nomatch at_ q
    obtain ⟨i0, ws', k1, k2, k3, k4, k5⟩ := f.ob j b dx c es' (key hj q)
    refine ⟨i0, ws', k1, k2, k3, ?_, k5⟩
    rw [upd_ne (fun z => ?_)]
    · exact k4
    · subst z
      rw [h4] at k4; cases k4
  · have hj : j ≠ i := fun z => by subst z; exact nomatch at_ q
    exact f.pot j (key hj q)
/-- x.append(e), x a list of one's own -/
theorem ds_app {i : Nat} {ds : List D} (hi : ρ[i]? = some (some (Sl.own ds))) (hz : ds.length < 100000) (h : DE A ρ te fun d => DS A (ρ.set i (some (Sl.own (ds ++ [d])))) tu N) :
    DS A ρ (tSeq (tDrop (tBM K "list" rAppend (tVar i) (tCons te tNil))) tu) N := fun G0 H0 σ G H E e k1 k2 k3 k4 => by
  obtain ⟨a, vs, h1, h2, h3, h4, h5⟩ := e.env.own i ds hi
  refine ⟨.ref a, h1, .inl ⟨rfl, vs, SqL.of h4⟩, ?_⟩
  refine h G0 H0 σ G H _ e fun d v G2 H2 hd rv s => ?_
  have e2 := e.step s
  obtain ⟨b, ws, j1, j2, j3, j4, j5⟩ := e2.env.own i ds hi
  rw [h1] at j1
  cases j1
  have hx := s.g
  refine ⟨a, ws, v, rfl, rfl, j4, Nat.lt_of_lt_of_le (by rw [j5.len]; exact hz) (show 100000 ≤ sizeLine by decide), ?_⟩
  exact hd G0 H0 σ G2 _ E (e2.mut hi h1 (j5.snoc rv)) (fun ρ' σ' G' H' n z x => k1 ρ' σ' G' H' n z (hx.trans x)) k2 (fun ρ' σ' G' H' n z x => k3 ρ' σ' G' H' n z (hx.trans x)) (fun ρ' σ' G' H' n z x => k4 ρ' σ' G' H' n z (hx.trans x))
theorem ds_app1 {i : Nat} {ds : List D} (hi : ρ[i]? = some (some (Sl.own ds))) (hz : ds.length < 100000) (h : DE A ρ te fun d => N.nx (ρ.set i (some (Sl.own (ds ++ [d]))))) :
    DS A ρ (tDrop (tBM K "list" rAppend (tVar i) (tCons te tNil))) N := ds_app (tu := tNext) hi hz (h.imp fun d hd => ds_next hd)
/-- the list of one's own becomes data -/
theorem Here.frz {G0 H0 G H : Hp} {σ : L2.St} {i : Nat} {ds : List D} (e : Here A G0 H0 ρ σ G H) (hi : ρ[i]? = some (some (Sl.own ds))) : ∃ G', Here A G0 H0 (ρ.set i (some (Sl.val (.lst ds)))) σ G' H ∧ Ex G G' := by
  have f := e.env
  obtain ⟨a, vs, h1, h2, h3, h4, h5⟩ := f.own i ds hi
  have x := Ex.new (o := .lst vs) h3
  have key : ∀ {j : Nat} {s : Sl}, j ≠ i → (ρ.set i (some (Sl.val (.lst ds))))[j]? = some (some s) → ρ[j]? = some (some s) := fun m q => by
    rw [List.getElem?_set_ne (Ne.symm m)] at q; exact q
  have il : i < ρ.length := (List.getElem?_eq_some_iff.mp hi).1
  have at_ : ∀ {s : Sl}, (ρ.set i (some (Sl.val (.lst ds))))[i]? = some (some s) → s = Sl.val (.lst ds) := fun {s} q => by
    rw [List.getElem?_set_self il] at q; cases q; rfl
  refine ⟨upd G a (.lst vs), ⟨⟨e.st.g.trans x, fun b o q => ?_, e.st.k, fun b o q1 q2 q3 => ?_, fun b q => ?_⟩, ⟨by rw [List.length_set]; exact f.len, fun j d' q => ?_, fun j es' q => ?_, fun j k b es' fs q1 q2 q3 q4 => ?_, fun j d' q => ?_, fun j b dx c es' q => ?_, fun j q => ?_⟩, e.ent⟩, x⟩
  · by_cases hb : b = a
    · subst hb; rw [upd_same] at q; cases q; exact h4
    · rw [upd_ne hb] at q; exact e.st.h b o q
  · rw [upd_ne (ne_of_none q2 h2)]; exact e.st.f b o q1 q2 q3
  · obtain ⟨z1, o, z2, z3⟩ := e.st.p b q
    refine ⟨?_, o, z2, z3⟩
    rw [upd_ne (fun z => ?_)]
    · exact z1
    · subst z
      obtain ⟨_, o', ho, _⟩ := e.ent.2 b q
      rw [h2] at ho; cases ho
  · by_cases hj : j = i
    · subst hj
      cases at_ q
      exact ⟨_, h1, .lst upd_same (h5.mono x)⟩
    · obtain ⟨w, k1, k2⟩ := f.val j d' (key hj q)
      exact ⟨w, k1, k2.mono x⟩
  · have hj : j ≠ i := fun z => by subst z; exact nomatch at_ q
    obtain ⟨b, ws', k1, k2, k3, k4, k5⟩ := f.own j es' (key hj q)
    refine ⟨b, ws', k1, k2, ?_, k4, k5.mono x⟩
    rw [upd_ne (fun z => ?_)]
    · exact k3
    · subst z
      exact hj (f.inj j i b es' ds (key hj q) hi k1 h1)
  · have hj : j ≠ i := fun z => by subst z; exact nomatch at_ q1
    have hk : k ≠ i := fun z => by subst z; exact nomatch at_ q2
    exact f.inj j k b es' fs (key hj q1) (key hk q2) q3 q4
  · have hj : j ≠ i := fun z => by subst z; exact nomatch at_ q
    obtain ⟨w, k1, k2⟩ := f.arg j d' (key hj q)
    exact ⟨w, k1, k2.mono (Ex.refl _) x⟩
  · have hj : j ≠ i := fun z => by subst z; exact nomatch at_ q
    obtain ⟨i0, ws', k1, k2, k3, k4, k5⟩ := f.ob j b dx c es' (key hj q)
    refine ⟨i0, ws', k1, k2, ?_, k4, k5.mono x⟩
    rw [upd_ne (fun z => ?_)]
    · exact k3
    · subst z
      rw [h4] at k4; cases k4
  · have hj : j ≠ i := fun z => by subst z; exact nomatch at_ q
    exact f.pot j (key hj q)
theorem ds_frz {i : Nat} {ds : List D} (hi : ρ[i]? = some (some (Sl.own ds))) (h : DS A (ρ.set i (some (Sl.val (.lst ds)))) ts N) : DS A ρ ts N := fun G0 H0 σ G H E e k1 k2 k3 k4 => by
  obtain ⟨G', e', hx⟩ := e.frz hi
  exact h G0 H0 σ G' H E e' (fun ρ' σ' G' H' n z x => k1 ρ' σ' G' H' n z (hx.trans x)) k2 (fun ρ' σ' G' H' n z x => k3 ρ' σ' G' H' n z (hx.trans x)) (fun ρ' σ' G' H' n z x => k4 ρ' σ' G' H' n z (hx.trans x))

/-! ### loops -/
/-- for: I by the turn -/
theorem ds_for {l : Bool} {wi : TI} {g : TG} {js : List Nat} (I : List D → Nat → Ro → Prop) (h : DI A l ρ wi fun ds => I ds 0 ρ ∧
    (∀ i d ρ', ds[i]? = some d → I ds i ρ' → ∃ ρ2, DG A l js ρ' g d ρ2 ∧ DS A ρ2 tu { nx := I ds (i + 1), ct := I ds (i + 1), bk := N.nx, rt := N.rt, rn := N.rn }) ∧
    ∀ ρ', I ds ds.length ρ' → N.nx ρ') : DS A ρ (tFor wi g tu) N := fun G0 H0 σ G H E e k1 k2 k3 k4 => by
  refine h G0 H0 σ G H _ e fun ds J G1 H1 hd J1 s1 => ?_
  obtain ⟨hI0, hturn, hend⟩ := hd
  have hx := s1.g
  refine ⟨fun i m σ' H' => m = ds.length - i ∧ i ≤ ds.length ∧ ∃ ρ' G', I ds i ρ' ∧ Here A G0 H0 ρ' σ' G' H' ∧ Ex G1 G', ⟨_, rfl, Nat.zero_le _, ρ, G1, hI0, e.step s1, Ex.refl _⟩, ?_⟩
  rintro i m σ' H' ⟨rfl, hi, ρ', G', hI, e', x'⟩
  obtain ⟨j1, j2, j3⟩ := J1 i G' H' (e'.mns.trans mns_ex) x' e'.st.h
  rcases Nat.lt_or_ge i ds.length with hlt | hge
  · refine .inr ⟨j1 hlt, fun σ2 H2 => ∃ ρ2 G2, I ds (i + 1) ρ2 ∧ Here A G0 H0 ρ2 σ2 G2 H2 ∧ Ex G1 G2, ?_, ?_⟩
    · rintro σ2 H2 ⟨ρ2, G2, q1, q2, q3⟩
      exact ⟨_, by omega, rfl, by omega, ρ2, G2, q1, q2, q3⟩
    · intro y H2 hy
      obtain ⟨G2, s2, ry⟩ := j3 _ (List.getElem?_eq_getElem hlt) e'.has y H2 hy
      obtain ⟨ρ2, dg, ds'⟩ := hturn i _ ρ' (List.getElem?_eq_getElem hlt) hI
      refine dg G0 H0 σ' G2 H2 y _ (e'.step s2) ry fun σ2 e2 _ => ?_
      have x2 := x'.trans s2.g
      refine ds' G0 H0 σ2 G2 H2 _ e2 (fun ρ3 σ3 G3 H3 n z w => ⟨ρ3, G3, n, z, x2.trans w⟩) k2 (fun ρ3 σ3 G3 H3 n z w => k1 ρ3 σ3 G3 H3 n z ((hx.trans x2).trans w)) (fun ρ3 σ3 G3 H3 n z w => ⟨ρ3, G3, n, z, x2.trans w⟩)
  · have : i = ds.length := by omega
    subst this
    exact .inl ⟨j2 rfl, k1 ρ' σ' G' H' (hend ρ' hI) e' (hx.trans x')⟩
/-- for, then what follows -/
theorem ds_fors {l : Bool} {wi : TI} {g : TG} {js : List Nat} (I : List D → Nat → Ro → Prop) (h : DI A l ρ wi fun ds => I ds 0 ρ ∧
    (∀ i d ρ', ds[i]? = some d → I ds i ρ' → ∃ ρ2, DG A l js ρ' g d ρ2 ∧ DS A ρ2 tu { nx := I ds (i + 1), ct := I ds (i + 1), bk := fun ρ' => DS A ρ' ts N, rt := N.rt, rn := N.rn }) ∧
    ∀ ρ', I ds ds.length ρ' → DS A ρ' ts N) : DS A ρ (tSeq (tFor wi g tu) ts) N :=
  ds_cut (M := fun ρ' => DS A ρ' ts N) (ds_for (N := { N with nx := fun ρ' => DS A ρ' ts N }) I h) fun _ h => h
/-- while: I by a measure -/
theorem ds_while (I : Nat → Ro → Prop) (m0 : Nat) (h0 : I m0 ρ) (h : ∀ m ρ', I m ρ' → DT A ρ' tt fun b => (b = true → DS A ρ' tu { nx := fun ρ2 => ∃ m', m' < m ∧ I m' ρ2, ct := fun ρ2 => ∃ m', m' < m ∧ I m' ρ2, bk := N.nx, rt := N.rt, rn := N.rn }) ∧ (b = false → N.nx ρ')) : DS A ρ (tWhile tt tu) N := fun G0 H0 σ G H E e k1 k2 k3 k4 => by
  refine ⟨fun m σ' H' => ∃ ρ' G', I m ρ' ∧ Here A G0 H0 ρ' σ' G' H' ∧ Ex G G', ⟨m0, ρ, G, h0, e, Ex.refl _⟩, ?_⟩
  rintro m σ' H' ⟨ρ', G', hI, e', x'⟩
  refine h m ρ' hI G0 H0 σ' G' H' _ e' fun b G2 H2 hb s2 => ?_
  have x2 := x'.trans s2.g
  cases b with
  | true =>
    rw [if_pos rfl]
    refine ⟨fun σ2 H3 => ∃ m', m' < m ∧ ∃ ρ2 G3, I m' ρ2 ∧ Here A G0 H0 ρ2 σ2 G3 H3 ∧ Ex G G3, fun σ2 H3 ⟨m', hm, ρ2, G3, q1, q2, q3⟩ => ⟨m', hm, ρ2, G3, q1, q2, q3⟩, ?_⟩
    exact hb.1 rfl G0 H0 σ' G2 H2 _ (e'.step s2) (fun ρ3 σ3 G3 H3 ⟨m', hm, n⟩ z w => ⟨m', hm, ρ3, G3, n, z, x2.trans w⟩) k2 (fun ρ3 σ3 G3 H3 n z w => k1 ρ3 σ3 G3 H3 n z (x2.trans w)) (fun ρ3 σ3 G3 H3 ⟨m', hm, n⟩ z w => ⟨m', hm, ρ3, G3, n, z, x2.trans w⟩)
  | false =>
    rw [if_neg Bool.false_ne_true]
    exact k1 ρ' σ' G2 H2 (hb.2 rfl) (e'.step s2) x2
theorem ds_whiles (I : Nat → Ro → Prop) (m0 : Nat) (h0 : I m0 ρ) (h : ∀ m ρ', I m ρ' → DT A ρ' tt fun b => (b = true → DS A ρ' tu { nx := fun ρ2 => ∃ m', m' < m ∧ I m' ρ2, ct := fun ρ2 => ∃ m', m' < m ∧ I m' ρ2, bk := fun ρ2 => DS A ρ2 ts N, rt := N.rt, rn := N.rn }) ∧ (b = false → DS A ρ' ts N)) : DS A ρ (tSeq (tWhile tt tu) ts) N :=
  ds_cut (M := fun ρ' => DS A ρ' ts N) (ds_while (N := { N with nx := fun ρ' => DS A ρ' ts N }) I m0 h0 h) fun _ h => h

/-- x = e, e loose as it stood at the entry -/
theorem ds_setM {i : Nat} (h : DM A ρ te fun d => DS A (ρ.set i (slF true d)) tu N) : DS A ρ (tSeq (tAsg te (gName i)) tu) N := fun G0 H0 σ G H E e k1 k2 k3 k4 => by
  refine h G0 H0 σ G H _ e fun d v G2 H2 hd rv s => ?_
  have hx := s.g
  exact hd G0 H0 _ G2 H2 E ((e.step s).setL i rv) (fun ρ' σ' G' H' n z x => k1 ρ' σ' G' H' n z (hx.trans x)) k2 (fun ρ' σ' G' H' n z x => k3 ρ' σ' G' H' n z (hx.trans x)) (fun ρ' σ' G' H' n z x => k4 ρ' σ' G' H' n z (hx.trans x))
theorem fsOf_snoc : ∀ {ns : List Str} {vs : List V} {acc : List (Str × V)} {f : Str} {v : V}, vs.length = ns.length → fsOf (ns ++ [f]) (vs ++ [v]) acc = putF f v (fsOf ns vs acc)
  | [], [], _, _, _, _ => rfl
  | [], _ :: _, _, _, _, h => by cases h
  | _ :: _, [], _, _, _, h => by cases h
  | n :: ns, w :: vs, acc, f, v, h => by
    show fsOf (ns ++ [f]) (vs ++ [v]) (putF n w acc) = _
    exact fsOf_snoc (by simpa using h)
theorem putF_len {f : Str} {v : V} : ∀ (l : List (Str × V)), (putF f v l).length ≤ l.length + 1
  | [] => Nat.le_refl _
  | (g, x) :: r => by
    unfold putF
    split
    · exact Nat.le_succ _
    · exact Nat.succ_le_succ (putF_len r)
theorem fsOf_len : ∀ (ns : List Str) (vs : List V) (acc : List (Str × V)), (fsOf ns vs acc).length ≤ acc.length + ns.length
  | [], _, _ => Nat.le_add_right _ _
  | _ :: _, [], _ => Nat.le_add_right _ _
  | n :: ns, v :: vs, acc => by
    have h1 := fsOf_len ns vs (putF n v acc)
    have h2 := putF_len (f := n) (v := v) acc
    show (fsOf ns vs (putF n v acc)).length ≤ _
    rw [List.length_cons]
    omega
/-- the object under construction gets its next field -/
theorem Here.mutO {G0 H0 G H : Hp} {σ : L2.St} {c : Nat} {ds es : List D} {a dx : Addr} {vs : List V} (e : Here A G0 H0 ρ σ G H) (hi : ρ[0]? = some (some (Sl.ob a dx c ds)))
    (rl : RepL A.C G es vs) : Here A G0 H0 (ρ.set 0 (some (Sl.ob a dx c es))) σ G (upd H a (.ins (A.C c).1 dx (fsOf ((A.C c).2.take es.length) vs []))) := by
  have f := e.env
  obtain ⟨_, ws, hσ, h2, h3, h4, h5⟩ := f.ob 0 a dx c ds hi
  have key : ∀ {j : Nat} {s : Sl}, j ≠ 0 → (ρ.set 0 (some (Sl.ob a dx c es)))[j]? = some (some s) → ρ[j]? = some (some s) := fun m q => by
    rw [List.getElem?_set_ne (Ne.symm m)] at q; exact q
  have il : 0 < ρ.length := (List.getElem?_eq_some_iff.mp hi).1
  have at_ : ∀ {s : Sl}, (ρ.set 0 (some (Sl.ob a dx c es)))[0]? = some (some s) → s = Sl.ob a dx c es := fun {s} q => by
    rw [List.getElem?_set_self il] at q; cases q; rfl
  refine ⟨⟨e.st.g, fun b o q => ?_, fun b o q n => ?_, e.st.f, fun b q => ?_⟩, ⟨by rw [List.length_set]; exact f.len, fun j d' q => ?_, fun j es' q => ?_, fun j k b es' fs q1 q2 q3 q4 => ?_, fun j d' q => ?_, fun j a' dx' c' es' q => ?_, fun j q => ?_⟩, e.ent⟩
  · rw [upd_ne (ne_of_none q h3)]; exact e.st.h b o q
  · rw [upd_ne (ne_of_none q h2)]; exact e.st.k b o q n
  · obtain ⟨z1, o, z2, z3⟩ := e.st.p b q
    refine ⟨z1, o, ?_, z3⟩
    rw [upd_ne (fun z => ?_)]
    · exact z2
    · subst z
      obtain ⟨_, o', ho, _⟩ := e.ent.2 b q
      rw [h2] at ho; cases ho
  · have hj : j ≠ 0 := fun z => by subst z; exact nomatch at_ q
    exact f.val j d' (key hj q)
  · have hj : j ≠ 0 := fun z => by subst z; exact nomatch at_ q
    obtain ⟨b, ws', k1, k2, k3, k4, k5⟩ := f.own j es' (key hj q)
    refine ⟨b, ws', k1, k2, k3, ?_, k5⟩
    rw [upd_ne (fun z => ?_)]
    · exact k4
    · subst z
      rw [h4] at k4; cases k4
  · have hj : j ≠ 0 := fun z => by subst z; exact nomatch at_ q1
    have hk : k ≠ 0 := fun z => by subst z; exact nomatch at_ q2
    exact f.inj j k b es' fs (key hj q1) (key hk q2) q3 q4
  · have hj : j ≠ 0 := fun z => by subst z; exact nomatch at_ q
    exact f.arg j d' (key hj q)
  · by_cases hj : j = 0
    · subst hj
      cases at_ q
      exact ⟨rfl, vs, hσ, h2, h3, upd_same, rl⟩
    · exact absurd (f.ob j a' dx' c' es' (key hj q)).1 hj
  · have hj : j ≠ 0 := fun z => by subst z; exact nomatch at_ q
    exact f.pot j (key hj q)
/-- self.f = e -/
theorem ds_fld {a dx : Addr} {c k : Nat} {ds : List D} {f : Str} (hi : ρ[0]? = some (some (Sl.ob a dx c ds))) (hc : Cls K (A.C c).1) (hn : NoAttr K (A.C c).1 f) (hf : (A.C c).2[k]? = some f) (hsz : (A.C c).2.length < 1000) (hk : ds.length = k)
    (h : DE A ρ te fun d => DS A (ρ.set 0 (some (Sl.ob a dx c (ds ++ [d])))) tu N) : DS A ρ (tSeq (sFld K (tVar 0) te f) tu) N := fun G0 H0 σ G H E e k1 k2 k3 k4 => by
  refine h G0 H0 σ G H _ e fun d v G2 H2 hd rv s => ?_
  have e2 := e.step s
  obtain ⟨_, vs, h1, h2, h3, h4, h5⟩ := e2.env.ob 0 a dx c ds hi
  have hx := s.g
  have lt : k < (A.C c).2.length := (List.getElem?_eq_some_iff.mp hf).1
  have hput : putF f v (fsOf ((A.C c).2.take ds.length) vs []) = fsOf ((A.C c).2.take (ds ++ [d]).length) (vs ++ [v]) [] := by
    rw [List.length_append, hk, show k + [d].length = k + 1 from rfl, List.take_add_one, hf]
    have lv : vs.length = ((A.C c).2.take k).length := by rw [h5.len, List.length_take, hk]; omega
    exact (fsOf_snoc lv).symm
  refine ⟨.ref a, h1, a, (A.C c).1, dx, fsOf ((A.C c).2.take ds.length) vs [], rfl, h4, hc, hn, ?_, ?_⟩
  · refine Nat.lt_of_le_of_lt (fsOf_len ..) ?_
    rw [List.length_take]
    simp
    omega
  rw [hput]
  exact hd G0 H0 σ G2 _ E (e2.mutO hi (h5.snoc rv)) (fun ρ' σ' G' H' n z x => k1 ρ' σ' G' H' n z (hx.trans x)) k2 (fun ρ' σ' G' H' n z x => k3 ρ' σ' G' H' n z (hx.trans x)) (fun ρ' σ' G' H' n z x => k4 ρ' σ' G' H' n z (hx.trans x))
theorem ds_fld1 {a dx : Addr} {c k : Nat} {ds : List D} {f : Str} (hi : ρ[0]? = some (some (Sl.ob a dx c ds))) (hc : Cls K (A.C c).1) (hn : NoAttr K (A.C c).1 f) (hf : (A.C c).2[k]? = some f) (hsz : (A.C c).2.length < 1000) (hk : ds.length = k)
    (h : DE A ρ te fun d => N.nx (ρ.set 0 (some (Sl.ob a dx c (ds ++ [d]))))) : DS A ρ (sFld K (tVar 0) te f) N := ds_fld (tu := tNext) hi hc hn hf hsz hk (h.imp fun d hd => ds_next hd)
end

/-! ### a def's body -/
def ro (N : List Str) (ds : List D) : Ro := ds.map (slF true) ++ List.replicate (N.length - ds.length) none
def roP (N : List Str) (ds : List D) : Ro := some Sl.pot :: (ds.map (slF true) ++ List.replicate (N.length - (ds.length + 1)) none)
def roI (N : List Str) (a dx : Addr) (c : Nat) (ds : List D) : Ro := some (Sl.ob a dx c []) :: (ds.map (slF true) ++ List.replicate (N.length - (ds.length + 1)) none)
theorem slF_val {d e : D} (h : slF true d = some (Sl.val e)) : e = d ∧ leaf d = true := by
  unfold slF at h
  rw [if_pos rfl] at h
  split at h
  · rename_i hl
    cases h; exact ⟨rfl, hl⟩
  · cases h
theorem slF_arg {d e : D} (h : slF true d = some (Sl.arg e)) : e = d := by
  unfold slF at h
  rw [if_pos rfl] at h
  split at h
  · cases h
  · cases h; rfl
theorem slF_no {d : D} {s : Sl} (h : slF true d = some s) : s = .val d ∨ s = .arg d := by
  unfold slF at h
  rw [if_pos rfl] at h
  split at h
  · cases h; exact .inl rfl
  · cases h; exact .inr rfl
/-- the slots of what was passed -/
theorem rest_here {A : Amb} {n : Nat} {G H0 : Hp} {ds : List D} {vs : List V} (r : LoL A.C (mns A.P H0) G ds vs) :
    (∀ (i : Nat) (d : D), (ds.map (slF true) ++ List.replicate n none)[i]? = some (some (Sl.val d)) → ∃ v, (vs.map some ++ List.replicate n none)[i]? = some (some v) ∧ Rep A.C G d v) ∧
    (∀ (i : Nat) (d : D), (ds.map (slF true) ++ List.replicate n none)[i]? = some (some (Sl.arg d)) → ∃ v, (vs.map some ++ List.replicate n none)[i]? = some (some v) ∧ Lo A.C (mns A.P H0) G d v) ∧
    ∀ (i : Nat) (s : Sl), (ds.map (slF true) ++ List.replicate n none)[i]? = some (some s) → ∃ d, s = .val d ∨ s = .arg d := by
  have shape : ∀ (i : Nat) (s : Sl), (ds.map (slF true) ++ List.replicate n none)[i]? = some (some s) → ∃ d v, slF true d = some s ∧ Lo A.C (mns A.P H0) G d v ∧ (vs.map some ++ List.replicate n none)[i]? = some (some v) := fun i s q => by
    by_cases hi : i < ds.length
    · rw [List.getElem?_append_left (by rw [List.length_map]; exact hi), List.getElem?_map, List.getElem?_eq_getElem hi] at q
      obtain ⟨v, hv, rv⟩ := r.get (List.getElem?_eq_getElem hi)
      have hi2 : i < vs.length := by rw [r.len]; exact hi
      refine ⟨ds[i], v, Option.some.inj q, rv, ?_⟩
      rw [List.getElem?_append_left (by rw [List.length_map]; exact hi2), List.getElem?_map, hv]
      rfl
    · rw [List.getElem?_append_right (by rw [List.length_map]; omega), List.getElem?_replicate] at q
      split at q <;> cases q
  refine ⟨fun i d q => ?_, fun i d q => ?_, fun i s q => ?_⟩
  · obtain ⟨e, v, hs, rv, hv⟩ := shape i _ q
    obtain ⟨rfl, hl⟩ := slF_val hs
    exact ⟨v, hv, rv.leaf hl⟩
  · obtain ⟨e, v, hs, rv, hv⟩ := shape i _ q
    cases slF_arg hs
    exact ⟨v, hv, rv⟩
  · obtain ⟨e, v, hs, _, _⟩ := shape i s q
    exact ⟨e, slF_no hs⟩
theorem start_here {A : Amb} {N : List Str} {G H : Hp} {ds : List D} {vs : List V} (h : Has A.P A.W G H) (r : LoL A.C (mns A.P H) G ds vs) : Here A G H (ro N ds) (L2.start N vs) G H := by
  obtain ⟨h1, h2, h3⟩ := rest_here (n := N.length - ds.length) r
  have e : L2.start N vs = vs.map some ++ List.replicate (N.length - ds.length) none := by unfold L2.start; rw [r.len]
  unfold ro
  rw [e]
  have no : ∀ {i : Nat} {s : Sl}, (ds.map (slF true) ++ List.replicate (N.length - ds.length) none)[i]? = some (some s) → (∀ d, s ≠ .val d) → (∀ d, s ≠ .arg d) → False := fun q a b => by
    obtain ⟨d, z⟩ := h3 _ _ q
    rcases z with z | z
    · exact a _ z
    · exact b _ z
  exact ⟨h.refl, ⟨by simp [r.len], h1, fun i es q => (no q (fun _ => nofun) (fun _ => nofun)).elim, fun i j a es fs q => (no q (fun _ => nofun) (fun _ => nofun)).elim, h2, fun i a dx c es q => (no q (fun _ => nofun) (fun _ => nofun)).elim, fun i q => (no q (fun _ => nofun) (fun _ => nofun)).elim⟩, h⟩
theorem start_hereP {A : Amb} {N : List Str} {G H : Hp} {ds : List D} {vs : List V} {p : Addr} (hP : A.P = some p) (h : Has A.P A.W G H) (r : LoL A.C (mns A.P H) G ds vs) : Here A G H (roP N ds) (L2.start N (.ref p :: vs)) G H := by
  obtain ⟨h1, h2, h3⟩ := rest_here (n := N.length - (ds.length + 1)) r
  have e : L2.start N (.ref p :: vs) = some (.ref p) :: (vs.map some ++ List.replicate (N.length - (ds.length + 1)) none) := by unfold L2.start; rw [List.length_cons, r.len]; rfl
  unfold roP
  rw [e]
  have no : ∀ {i : Nat} {s : Sl}, (some Sl.pot :: (ds.map (slF true) ++ List.replicate (N.length - (ds.length + 1)) none))[i]? = some (some s) → s ≠ .pot → (∀ d, s ≠ .val d) → (∀ d, s ≠ .arg d) → False := fun {i s} q n a b => by
    cases i with
    | zero => rw [List.getElem?_cons_zero] at q; cases q; exact n rfl
    | succ i =>
      rw [List.getElem?_cons_succ] at q
      obtain ⟨d, z⟩ := h3 _ _ q
      rcases z with z | z
      · exact a _ z
      · exact b _ z
  refine ⟨h.refl, ⟨by simp [r.len], fun i d q => ?_, fun i es q => (no q nofun (fun _ => nofun) (fun _ => nofun)).elim, fun i j a es fs q => (no q nofun (fun _ => nofun) (fun _ => nofun)).elim, fun i d q => ?_, fun i a dx c es q => (no q nofun (fun _ => nofun) (fun _ => nofun)).elim, fun i q => ?_⟩, h⟩
  · cases i with
    | zero => rw [List.getElem?_cons_zero] at q; cases q
    | succ i => rw [List.getElem?_cons_succ] at q ⊢; exact h1 i d q
  · cases i with
    | zero => rw [List.getElem?_cons_zero] at q; cases q
    | succ i => rw [List.getElem?_cons_succ] at q ⊢; exact h2 i d q
  · cases i with
    | zero => exact ⟨p, hP, rfl⟩
    | succ i =>
      rw [List.getElem?_cons_succ] at q
      obtain ⟨d, z⟩ := h3 _ _ q
      rcases z with z | z <;> cases z
/-- the body of a def that only makes objects -/
theorem spD_run {C : CT} {N : List Str} {t : TS} {pre : List D → Prop} {post : List D → D → Prop} {vs : List V} {H : Hp} {Q : VK} {E : XK} (h : spD C pre post vs H Q E)
    (k : ∀ ds, pre ds → DS ⟨C, fun _ => True, none⟩ (ro N ds) t { nx := fun _ => post ds .non, rt := post ds }) : t { nx := fun _ H' => Q .non H', rt := Q } (L2.start N vs) H := by
  obtain ⟨G, ds, x, r, hp, q⟩ := h
  have hh : Has none (fun _ => True) G H := Has.none x
  refine k ds hp G H _ G H _ (start_here (A := ⟨C, fun _ => True, none⟩) hh r) (fun ρ' σ' G' H' n e _ => q _ _ G' H' n .non e.st) ⟨fun d v G' H' n rv st => q d v G' H' n rv st, fun _ _ _ _ n => n.elim⟩ (fun _ _ _ _ n => n.elim) (fun _ _ _ _ n => n.elim)
theorem spP_run {C : CT} {W : HO → Prop} {N : List Str} {t : TS} {pre : List D → Prop} {post : List D → D → Prop} {vs : List V} {H : Hp} {Q : VK} {E : XK} (h : spP C W pre post vs H Q E)
    (k : ∀ p ds, pre ds → DS ⟨C, W, some p⟩ (roP N ds) t { nx := fun _ => post ds .non, rt := post ds }) : t { nx := fun _ H' => Q .non H', rt := Q } (L2.start N vs) H := by
  obtain ⟨p, G, ds, ws, rfl, hh, r, hp, q⟩ := h
  refine k p ds hp G H _ G H _ (start_hereP (A := ⟨C, W, some p⟩) rfl hh r) (fun ρ' σ' G' H' n e _ => q _ _ G' H' n .non e.st) ⟨fun d v G' H' n rv st => q d v G' H' n rv st, fun _ _ _ _ n => n.elim⟩ (fun _ _ _ _ n => n.elim) (fun _ _ _ _ n => n.elim)
/-- a def that hands back what is new -/
theorem spF_run {C : CT} {N : List Str} {t : TS} {pre : List D → Prop} {post : List D → D → Prop} {vs : List V} {H : Hp} {Q : VK} {E : XK} (h : spF C pre post vs H Q E)
    (k : ∀ ds, pre ds → DS ⟨C, fun _ => True, none⟩ (ro N ds) t { nx := fun _ => False, rt := fun _ => False, rn := post ds }) : t { nx := fun _ H' => Q .non H', rt := Q } (L2.start N vs) H := by
  obtain ⟨G, ds, x, r, hp, q⟩ := h
  have hh : Has none (fun _ => True) G H := Has.none x
  exact k ds hp G H _ G H _ (start_here (A := ⟨C, fun _ => True, none⟩) hh r) (fun _ _ _ _ n => n.elim) ⟨fun _ _ _ _ n => n.elim, fun d v G' H' n rv st => q d v G' H' n rv st⟩ (fun _ _ _ _ n => n.elim) (fun _ _ _ _ n => n.elim)
/-- a def whose first argument is the pot, the others data -/
def roC (N : List Str) (ds : List D) : Ro := some Sl.pot :: (ds.map (fun d => some (Sl.val d)) ++ List.replicate (N.length - (ds.length + 1)) none)
theorem start_hereC {A : Amb} {N : List Str} {G H : Hp} {ds : List D} {vs : List V} {p : Addr} (hP : A.P = some p) (h : Has A.P A.W G H) (r : RepL A.C G ds vs) : Here A G H (roC N ds) (L2.start N (.ref p :: vs)) G H := by
  have e : L2.start N (.ref p :: vs) = some (.ref p) :: (vs.map some ++ List.replicate (N.length - (ds.length + 1)) none) := by unfold L2.start; rw [List.length_cons, r.len]; rfl
  have shape : ∀ {i : Nat} {s : Sl}, (roC N ds)[i]? = some (some s) → (i = 0 ∧ s = .pot) ∨ ∃ j d v, i = j + 1 ∧ s = .val d ∧ Rep A.C G d v ∧ (vs.map some ++ List.replicate (N.length - (ds.length + 1)) none)[j]? = some (some v) := fun {i s} q => by
    unfold roC at q
    cases i with
    | zero => rw [List.getElem?_cons_zero] at q; cases q; exact .inl ⟨rfl, rfl⟩
    | succ i =>
      rw [List.getElem?_cons_succ] at q
      by_cases hi : i < ds.length
      · rw [List.getElem?_append_left (by rw [List.length_map]; exact hi), List.getElem?_map, List.getElem?_eq_getElem hi] at q
        obtain ⟨v, hv, rv⟩ := r.get (List.getElem?_eq_getElem hi)
        have hi2 : i < vs.length := by rw [r.len]; exact hi
        refine .inr ⟨i, ds[i], v, rfl, (Option.some.inj (Option.some.inj q)).symm, rv, ?_⟩
        rw [List.getElem?_append_left (by rw [List.length_map]; exact hi2), List.getElem?_map, hv]
        rfl
      · rw [List.getElem?_append_right (by rw [List.length_map]; omega), List.getElem?_replicate] at q
        split at q <;> cases q
  rw [e]
  have no : ∀ {i : Nat} {s : Sl}, (roC N ds)[i]? = some (some s) → s ≠ .pot → (∀ d, s ≠ .val d) → False := fun q a b => by
    rcases shape q with ⟨_, z⟩ | ⟨_, _, _, _, z, _⟩
    · exact a z
    · exact b _ z
  refine ⟨h.refl, ⟨by unfold roC; simp [r.len], fun i d q => ?_, fun i es q => (no q nofun (fun _ => nofun)).elim, fun i j a es fs q => (no q nofun (fun _ => nofun)).elim, fun i d q => (no q nofun (fun _ => nofun)).elim, fun i a dx c es q => (no q nofun (fun _ => nofun)).elim, fun i q => ?_⟩, h⟩
  · rcases shape q with ⟨_, z⟩ | ⟨j, d', v, rfl, z, rv, hv⟩
    · cases z
    · cases z
      rw [List.getElem?_cons_succ]
      exact ⟨v, hv, rv⟩
  · rcases shape q with ⟨rfl, _⟩ | ⟨j, d', v, rfl, z, rv, hv⟩
    · exact ⟨p, hP, rfl⟩
    · cases z
theorem spC_run {C : CT} {W : HO → Prop} {N : List Str} {t : TS} {pre : List D → Prop} {post : List D → D → Prop} {vs : List V} {H : Hp} {Q : VK} {E : XK} (h : spC C W pre post vs H Q E)
    (k : ∀ p ds, pre ds → DS ⟨C, W, some p⟩ (roC N ds) t { nx := fun _ => post ds .non, rt := post ds }) : t { nx := fun _ H' => Q .non H', rt := Q } (L2.start N vs) H := by
  obtain ⟨p, G, ds, ws, rfl, hh, r, hp, q⟩ := h
  refine k p ds hp G H _ G H _ (start_hereC (A := ⟨C, W, some p⟩) rfl hh r) (fun ρ' σ' G' H' n e _ => q _ _ G' H' n .non e.st) ⟨fun d v G' H' n rv st => q d v G' H' n rv st, fun _ _ _ _ n => n.elim⟩ (fun _ _ _ _ n => n.elim) (fun _ _ _ _ n => n.elim)
theorem spC_len {C : CT} {W : HO → Prop} {pre : List D → Prop} {post : List D → D → Prop} {n : Nat} (h : ∀ ds, pre ds → ds.length = n) : ∀ (vs : List V) (H : Hp) (Q : VK) (E : XK), spC C W pre post vs H Q E → vs.length = n + 1 := fun vs H Q E ⟨p, G, ds, ws, e, _, r, hp, _⟩ => by rw [e, List.length_cons, r.len, h ds hp]
theorem spF_len {C : CT} {pre : List D → Prop} {post : List D → D → Prop} {n : Nat} (h : ∀ ds, pre ds → ds.length = n) : ∀ (vs : List V) (H : Hp) (Q : VK) (E : XK), spF C pre post vs H Q E → vs.length = n := fun vs H Q E ⟨G, ds, _, r, hp, _⟩ => by rw [r.len, h ds hp]
/-- the body of __init__ -/
theorem spI_run {C : CT} {c : Nat} {N : List Str} {t : TS} {pre : List D → Prop} {post : List D → List D → Prop} {vs : List V} {H : Hp} {Q : VK} {E : XK} (h : spI C c pre post vs H Q E)
    (k : ∀ a dx ds, pre ds → DS ⟨C, fun _ => True, none⟩ (roI N a dx c ds) t { nx := fun ρ => ∃ es, ρ[0]? = some (some (Sl.ob a dx c es)) ∧ es.length = (C c).2.length ∧ post ds es, rt := fun _ => False }) : t { nx := fun _ H' => Q .non H', rt := Q } (L2.start N vs) H := by
  obtain ⟨a, dx, G, ds, ws, rfl, x, ga, ha, r, hp, q⟩ := h
  let H0 : Hp := mns (some a) H
  have hn : H0 a = none := by show mns (some a) H a = none; unfold mns; rw [if_pos rfl]
  have h0 : ∀ {b : Addr}, b ≠ a → H0 b = H b := fun {b} n => by show mns (some a) H b = _; unfold mns; rw [if_neg (fun z => n (Option.some.inj z))]
  have x0 : Ex G H0 := fun b o e => by rw [h0 (fun z => by rw [z, ga] at e; cases e)]; exact x b o e
  have e0 : Ex H0 H := fun b o e => by rw [h0 (fun z => by rw [z, hn] at e; cases e)] at e; exact e
  have r0 : LoL C (mns none H0) G ds ws := by
    have key : ExC (mns none H) (mns none H0) := fun b o no e => by
      unfold mns at e ⊢
      rw [if_neg (by simp)] at e ⊢
      have : b ≠ a := fun z => by rw [z, ha] at e; exact no _ _ _ (Option.some.inj e).symm
      rw [h0 this]; exact e
    exact LoL.keep key r
  obtain ⟨h1, h2, h3⟩ := rest_here (A := ⟨C, fun _ => True, none⟩) (n := N.length - (ds.length + 1)) r0
  have st : Stp none (fun _ => True) G H0 G H := ⟨Ex.refl G, x, fun b o e _ => e0 b o e, fun _ _ q _ _ => q, fun _ z => nomatch z⟩
  have e : L2.start N (.ref a :: ws) = some (.ref a) :: (ws.map some ++ List.replicate (N.length - (ds.length + 1)) none) := by unfold L2.start; rw [List.length_cons, r.len]; rfl
  have here : Here ⟨C, fun _ => True, none⟩ G H0 (roI N a dx c ds) (L2.start N (.ref a :: ws)) G H := by
    unfold roI
    rw [e]
    have no : ∀ {i : Nat} {s : Sl}, (some (Sl.ob a dx c []) :: (ds.map (slF true) ++ List.replicate (N.length - (ds.length + 1)) none))[i]? = some (some s) → s ≠ .ob a dx c [] → (∀ d, s ≠ .val d) → (∀ d, s ≠ .arg d) → False := fun {i s} q n a1 b1 => by
      cases i with
      | zero => rw [List.getElem?_cons_zero] at q; cases q; exact n rfl
      | succ i =>
        rw [List.getElem?_cons_succ] at q
        obtain ⟨d, z⟩ := h3 _ _ q
        rcases z with z | z
        · exact a1 _ z
        · exact b1 _ z
    refine ⟨st, ⟨by simp [r.len], fun i d q => ?_, fun i es q => (no q nofun (fun _ => nofun) (fun _ => nofun)).elim, fun i j a es fs q => (no q nofun (fun _ => nofun) (fun _ => nofun)).elim, fun i d q => ?_, fun i a' dx' c' es q => ?_, fun i q => (no q nofun (fun _ => nofun) (fun _ => nofun)).elim⟩, Has.none x0⟩
    · cases i with
      | zero => rw [List.getElem?_cons_zero] at q; cases q
      | succ i => rw [List.getElem?_cons_succ] at q ⊢; exact h1 i d q
    · cases i with
      | zero => rw [List.getElem?_cons_zero] at q; cases q
      | succ i => rw [List.getElem?_cons_succ] at q ⊢; exact h2 i d q
    · cases i with
      | zero =>
        rw [List.getElem?_cons_zero] at q
        cases q
        exact ⟨rfl, [], rfl, hn, ga, ha, .nil⟩
      | succ i =>
        rw [List.getElem?_cons_succ] at q
        obtain ⟨d, z⟩ := h3 _ _ q
        rcases z with z | z <;> cases z
  refine k a dx ds hp G H0 _ G H _ here (fun ρ' σ' G' H' n e2 g2 => ?_) ⟨fun _ _ _ _ n => n.elim, fun _ _ _ _ n => n.elim⟩ (fun _ _ _ _ n => n.elim) (fun _ _ _ _ n => n.elim)
  obtain ⟨es, i0, hl, hpost⟩ := n
  obtain ⟨_, us, k1, k2, k3, k4, k5⟩ := e2.env.ob 0 a dx c es i0
  rw [hl, List.take_length] at k4
  refine q es us G' H' hpost k5 k4 k3 (fun b o nb hb => ?_) e2.st.g e2.st.h (fun b o nb h1 h2 h3 => ?_)
  · exact e2.st.k b o (by rw [h0 nb]; exact hb) (by simp)
  · exact e2.st.f b o h1 (by rw [h0 nb]; exact h2) h3
theorem spD_len {C : CT} {pre : List D → Prop} {post : List D → D → Prop} {n : Nat} (h : ∀ ds, pre ds → ds.length = n) : ∀ (vs : List V) (H : Hp) (Q : VK) (E : XK), spD C pre post vs H Q E → vs.length = n := fun vs H Q E ⟨G, ds, _, r, hp, _⟩ => by rw [r.len, h ds hp]
theorem spP_len {C : CT} {W : HO → Prop} {pre : List D → Prop} {post : List D → D → Prop} {n : Nat} (h : ∀ ds, pre ds → ds.length = n) : ∀ (vs : List V) (H : Hp) (Q : VK) (E : XK), spP C W pre post vs H Q E → vs.length = n + 1 := fun vs H Q E ⟨p, G, ds, ws, e, _, r, hp, _⟩ => by rw [e, List.length_cons, r.len, h ds hp]
theorem spI_len {C : CT} {c : Nat} {pre : List D → Prop} {post : List D → List D → Prop} {n : Nat} (h : ∀ ds, pre ds → ds.length = n) : ∀ (vs : List V) (H : Hp) (Q : VK) (E : XK), spI C c pre post vs H Q E → vs.length = n + 1 := fun vs H Q E ⟨a, dx, G, ds, ws, e, _, _, _, r, hp, _⟩ => by rw [e, List.length_cons, r.len, h ds hp]
end GD
/-! repr of lists and tuples that hold instances of own classes. -/
namespace GD
open PySem L2 GX PyProof.Rows
open Evl (Ex)

/-! ### how data are shown -/
mutual
inductive Shw (own : Nat → List D → Str → Prop) : D → Str → Prop
  | non : Shw own .non "None"
  | bl (b : Bool) : Shw own (.bl b) (if b then "True" else "False")
  | int {i : Int} : i.natAbs.log2 < 1920 → Shw own (.int i) (toString i)
  | str {x : Str} : (reprText x).length ≤ sizeLine → Shw own (.str x) (reprText x)
  | lst {ds : List D} {ts : List Str} : ShwL own ds ts → (listText ts).length ≤ sizeLine → Shw own (.lst ds) (listText ts)
  | tup {ds : List D} {ts : List Str} : ShwL own ds ts → (tupleText ts).length ≤ sizeLine → Shw own (.tup ds) (tupleText ts)
  | ins {c : Nat} {ds : List D} {t : Str} : own c ds t → Shw own (.ins c ds) t
inductive ShwL (own : Nat → List D → Str → Prop) : List D → List Str → Prop
  | nil : ShwL own [] []
  | cons {d : D} {t : Str} {ds : List D} {ts : List Str} : Shw own d t → ShwL own ds ts → ShwL own (d :: ds) (t :: ts)
end
mutual
def dep : D → Nat
  | .lst ds => depL ds + 1
  | .tup ds => depL ds + 1
  | _ => 0
def depL : List D → Nat
  | [] => 0
  | d :: ds => max (dep d) (depL ds)
end
section
variable {C : CT} {G : Hp}
mutual
theorem dep_eq : ∀ {d : D} {v : V} {e : D}, Rep C G d v → Rep C G e v → dep d = dep e
  | _, _, _, .non, r => by cases r; rfl
  | _, _, _, .bl b, r => by cases r; rfl
  | _, _, _, .int i, r => by cases r; rfl
  | _, _, _, .str x, r => by cases r; rfl
  | _, _, _, .lst h l, r => by
    cases r with
    | lst h' l' => rw [h] at h'; cases h'; rw [dep, dep, depL_eq l l']
    | tup h' l' => rw [h] at h'; cases h'
    | ins h' l' _ => rw [h] at h'; cases h'
  | _, _, _, .tup h l, r => by
    cases r with
    | lst h' l' => rw [h] at h'; cases h'
    | tup h' l' => rw [h] at h'; cases h'; rw [dep, dep, depL_eq l l']
    | ins h' l' _ => rw [h] at h'; cases h'
  | _, _, _, .ins h l _, r => by
    cases r with
    | lst h' l' => rw [h] at h'; cases h'
    | tup h' l' => rw [h] at h'; cases h'
    | ins h' l' _ => simp [dep]
theorem depL_eq : ∀ {ds : List D} {vs : List V} {es : List D}, RepL C G ds vs → RepL C G es vs → depL ds = depL es
  | _, _, _, .nil, .nil => rfl
  | _, _, _, .cons h l, .cons h' l' => by rw [depL, depL, dep_eq h h', depL_eq l l']
end
theorem dep_le : ∀ {ds : List D} {i : Nat} {d : D}, ds[i]? = some d → dep d ≤ depL ds
  | [], _, _, h => by simp at h
  | e :: es, 0, d, h => by
    have : e = d := by simpa using h
    subst this
    rw [depL]; omega
  | e :: es, i + 1, d, h => by
    have := dep_le (ds := es) (i := i) (d := d) (by simpa using h)
    rw [depL]; omega
end
/-- what is being shown is deeper than n -/
def GdOk (C : CT) (G : Hp) (n : Nat) (g : List Code) : Prop := ∀ id b rest kw, Code.builtin id ⟨.ref b :: rest, kw⟩ ∈ g → ∀ e, Rep C G e (.ref b) → n < dep e
theorem GdOk.nil {C : CT} {G : Hp} {n : Nat} : GdOk C G n [] := fun _ _ _ _ h => nomatch h
theorem GdOk.clear {C : CT} {G : Hp} {g : List Code} {d : D} {a : Addr} (h : GdOk C G (dep d) g) (r : Rep C G d (.ref a)) : Clear g a := fun id v rest kw m e => by
  subst e
  exact absurd (h id a rest kw m d r) (Nat.lt_irrefl _)
theorem GdOk.down {C : CT} {G : Hp} {g : List Code} {d e : D} {a : Addr} {id : String} {rest : List Value} {kw : List (Str × Value)} (h : GdOk C G (dep d) g) (r : Rep C G d (.ref a)) (lt : dep e < dep d) :
    GdOk C G (dep e) (.builtin id ⟨.ref a :: rest, kw⟩ :: g) := fun id' b rest' kw' m e' r' => by
  rcases List.mem_cons.mp m with z | z
  · cases z
    rw [← dep_eq r r']
    exact lt
  · exact Nat.lt_trans lt (h id' b rest' kw' z e' r')
theorem sub_guard {X : Cx} {k : Nat} {A : Around} {id : String} {args : Args} (sb : Sub X (k + 1) A) (hu : (A.under (.builtin id args)).units = A.units + 1) (hw : (Code.builtin id args).weight = 1) (he : (Code.builtin id args).envs = []) : Sub X k (A.under (.builtin id args)) := by
  have r := sb.room
  refine ⟨⟨r.hd, ?_, ?_⟩, ?_⟩
  · have := r.dp
    show A.depth + (Code.builtin id args).weight + 3 * k + 5 < _
    rw [hw]; omega
  · have := r.un
    rw [hu]; omega
  · show pushEnvs (Code.builtin id args).envs A.frames = _
    rw [he]
    exact sb.fr

/-- v, standing for d, is shown as t, wherever below -/
def RpX (X : Cx) (C : CT) (k : Nat) (d : D) (t : Str) : Prop := ∀ (base : Nat) (A : Around) (g : List Code) (pins : List (Addr × Obj)) (s : Shared) (σ : L2.St) (G H : Hp) (v : V) (u : Value) (E : Value → Shared → Prop),
  base + t.length ≤ sizeLine → Sub X k A → A.guards = some g → GdOk C G (dep d) g → Inv X pins σ H s → Ex G H → Rep C G d v → RelV v u →
  wpAny (model X.prog X.w) A (pyReprUnder base u) (fun r s' => r = t ∧ ∃ H', Inv X pins σ H' s' ∧ Ex H H') E s
theorem RpX.mono {X : Cx} {C : CT} {k j : Nat} {d : D} {t : Str} (h : RpX X C k d t) (hk : k ≤ j) : RpX X C j d t := fun base A g pins s σ G H v u E hz sb => h base A g pins s σ G H v u E hz (sb.mono hk)
theorem RpX.leaf {X : Cx} {C : CT} {k : Nat} {d : D} {t : Str} (h : ∀ G v u, Rep C G d v → RelV v u → ReprIs X.prog X.w u t) : RpX X C k d t := fun base A g pins s σ G H v u E hz sb hg gd I x r ru =>
  h G v u r ru base hz A E s _ fun tk => ⟨rfl, H, I.tok tk, Ex.refl H⟩
section
variable {X : Cx} {C : CT} {k base : Nat} {G : Hp} {pins : List (Addr × Obj)} {σ : L2.St} {a P : Addr} {ds : List D} {vs : List V} {ts : List Str} {A : Around} {g : List Code} {R : Result → Shared → Prop}
theorem env_loop {args : Args} : (Code.builtin "list.__repr__.loop" args).envs = [] := rfl
theorem wt_loop {args : Args} : (Code.builtin "list.__repr__.loop" args).weight = 1 := by
  unfold Code.weight
  rw [isGuard_list_loop]
  rfl
theorem rp_loop (hG : G a = some (.lst vs)) (hr : RepL C G ds vs) (hne : a ≠ P) (hg : A.guards = some g) (sb : Sub X (k + 1) A) (gd : GdOk C G (dep (.lst ds)) g) (hlen : ts.length = ds.length)
    (hT : ∀ (i : Nat) (d : D), ds[i]? = some d → ∃ t, ts[i]? = some t ∧ RpX X C k d t) (hsz : base + (listText ts).length ≤ sizeLine) :
    ∀ (m i : Nat) (s : Shared) (H : Hp) (acc : Array Value) (c : Nat) (done : List (Str × Tok)), ds.length - i = m → i ≤ ds.length → Inv X pins σ H s → Ex G H → FpOk X pins H P →
      s.heap.get? P = some { cls := .type "list", dict := none, data := .seq acc c, slots := #[] } → acc.toList = strValues done → done.map (·.1) = ts.take i →
      (∀ s' H' u, Inv X pins σ H' s' → Ex H H' → R (.ok (.ret (.str (listText ts) u))) s') →
      codeAny (model X.prog X.w) A (.builtin "list.__repr__.loop" ⟨[.ref a, rawInt i, .ref P, rawInt ((base + piled (ts.take i) : Nat) : Int)], []⟩) R s := by
  have big : (listText ts).length ≤ sizeLine := by omega
  have parts : ∀ t, t ∈ ts → t.length ≤ sizeLine := fun t ht => Nat.le_trans (listText_mem_le ht) big
  have pile := piled_le_listText ts
  have cnt : ds.length ≤ sizeLine := by
    have q := (textFrom_len ts 0 "[").1
    have z : (listText ts).length = (textFrom 0 "[" ts).length + 1 := by
      unfold listText
      rw [strLen_append]
      rfl
    rw [if_neg (by decide)] at q
    omega
  intro m
  induction m with
  | zero =>
    intro i s H acc c done hm hi I x fp hP hacc hdone hR
    have e : i = ds.length := by omega
    obtain ⟨_, its, n, rv, oa⟩ := I.hok a _ (x a _ hG)
    refine codeAny_builtin PySem.F.entry_list_repr_loop ?_
    show wpAny _ _ (Builtin.«list.__repr__.loop» ⟨[.ref a, .int i 0, .ref P, .int ((base + piled (ts.take i) : Nat) : Int) 0], []⟩) _ _ _
    rw [repr_loop_tree]
    refine wpAny_bind (wpAny_listItems oa rfl ?_)
    have out : its.toArray[(i : Int).toNat]? = none := by
      have l1 := rv.length
      have l2 := hr.len
      simp
      omega
    simp only [out]
    unfold reprEnd
    refine wpAny_bind (wpAny_listItems hP rfl ?_)
    rw [hacc, repr_fold]
    refine wpAny_bind (wpAny_pure ?_)
    rw [show done.map (·.1) = ts by rw [hdone, e, ← hlen, List.take_length]]
    refine wpAny_bind (wpAny_mkStr (wpAny_pure ?_) big)
    exact hR _ H _ (I.tok _) (Ex.refl H)
  | succ m ih =>
    intro i s H acc c done hm hi I x fp hP hacc hdone hR
    have lt : i < ds.length := by omega
    obtain ⟨_, its, n, rv, oa⟩ := I.hok a _ (x a _ hG)
    obtain ⟨v, hv, rd⟩ := hr.get (List.getElem?_eq_getElem lt)
    obtain ⟨u, hu, ru⟩ := rv.get hv
    obtain ⟨t, ht, rp⟩ := hT i _ (List.getElem?_eq_getElem lt)
    have p1 := piled_take_succ ht
    have p2 := piled_take_le ts (i + 1)
    refine codeAny_builtin PySem.F.entry_list_repr_loop ?_
    show wpAny _ _ (Builtin.«list.__repr__.loop» ⟨[.ref a, .int i 0, .ref P, .int ((base + piled (ts.take i) : Nat) : Int) 0], []⟩) _ _ _
    rw [repr_loop_tree]
    refine wpAny_bind (wpAny_listItems oa rfl ?_)
    have at_ : its.toArray[(i : Int).toNat]? = some u := by simpa using hu
    simp only [at_]
    rw [Int.toNat_natCast]
    obtain ⟨f0, f1, f2, f3, f4, f5⟩ := id fp
    have Ip : Inv X ((P, { cls := .type "list", dict := none, data := .seq acc c, slots := #[] }) :: pins) σ H s := I.pins_of fun p hp => by
      rcases List.mem_cons.mp hp with z | z
      · subst z; exact ⟨hP, f0, f1, f2, fun v z => nomatch z⟩
      · exact I.pin p (List.mem_append_right _ z)
    have lv : dep ds[i] < dep (.lst ds) := by
      have := dep_le (List.getElem?_eq_getElem lt)
      rw [dep]; omega
    refine wpAny_bind (wpAny_holding (thn (rp (base + piled (ts.take i) + 1) _ _ _ _ _ G H v u _ (by omega) (sub_guard sb (units_under_list_loop _ _) wt_loop env_loop) (guards_under_guard (isGuard_list_loop _) hg)
      (gd.down (.lst hG hr) lv) Ip x rd ru) fun r s1 hs1 => ?_))
    obtain ⟨rfl, H1, I1, x1⟩ := hs1
    have pP := I1.pin (P, _) (List.mem_append_right _ List.mem_cons_self)
    have I2 : Inv X pins σ H1 s1 := I1.pins_of fun p hp => I1.pin p (List.mem_append_right _ (List.mem_cons_of_mem _ hp))
    refine wpAny_bind (wpAny_mkStr ?_ (parts r (List.mem_of_getElem? ht)))
    refine wpAny_bind ?_
    show wpAny _ _ (updateSeq P _) _ _ _
    have asz : acc.size ≤ sizeLine := by
      have e1 : acc.toList.length = acc.size := by simp
      have e2 : (strValues done).length = (done.map (·.1)).length := by simp [strValues]
      rw [hacc, e2, hdone, List.length_take] at e1
      omega
    refine wpAny_updateSeq pP.1 rfl (wpAny_pure ⟨PySem.F.quiet_list_repr_loop _, ?_⟩) asz
    rw [show ((i : Int) + 1) = ((i + 1 : Nat) : Int) by omega, show base + piled (ts.take i) + (r.length + 2) = base + piled (ts.take (i + 1)) by omega]
    have I3 := I2.turned (h' := s1.heap.update P (Obj.mapSeq fun xs => xs.push (.str r s1.toks))) (t' := s1.toks + 1) (it := P) (fun b o hb e => (Heap.get?_update_other _ _ (Ne.symm hb)).trans e) pP.2.1 f1 f3 f4 f5
    exact ih (i + 1) _ H1 (acc.push (.str r s1.toks)) _ (done ++ [(r, s1.toks)]) (by omega) lt I3 (x.trans x1) ⟨pP.2.1, f1, f2, f3, f4, f5⟩ (Heap.get?_update_self _ pP.1 rfl)
      (by simp [hacc, strValues]) (by simp [List.take_add_one, ht, hdone]) fun s' H' w J y => hR s' H' w J (x1.trans y)
/-- a list -/
theorem rp_lst (hlen : ts.length = ds.length) (hT : ∀ (i : Nat) (d : D), ds[i]? = some d → ∃ t, ts[i]? = some t ∧ RpX X C k d t) : RpX X C (k + 1) (.lst ds) (listText ts) := fun base A g pins s σ G H v u E hz sb hg gd I x r ru => by
  cases id r with
  | lst hG hr =>
    rename_i a vs
    cases (show u = Value.ref a from ru)
    obtain ⟨_, its, n, rv, oa⟩ := I.hok a _ (x a _ hG)
    have hu : A.units + 200 < cLine := by have := sb.room.un; omega
    have l1 := rv.length
    have l2 := hr.len
    have clr : Clear g a := gd.clear r
    refine wpAny_pyReprUnder_ref (by omega) ?_
    cases its with
    | nil =>
      have e0 : ds = [] := List.eq_nil_of_length_eq_zero (by rw [← l2, l1]; rfl)
      subst e0
      have e1 : ts = [] := List.eq_nil_of_length_eq_zero hlen
      subst e1
      exact wpAny_pyReprObjUnder_list_empty ⟨_, oa, rfl⟩ (by omega) oa rfl ⟨_, _, rfl, listText_nil.symm, H, I.tok _, Ex.refl H⟩
    | cons y l =>
      refine wpAny_pyReprObjUnder_twin (twin := "list.__repr__.under") ⟨_, oa, rfl⟩ PySem.F.slot_list_repr.toG rfl (by omega) ?_
      refine call_twin_plain PySem.F.plain_list_repr_under PySem.F.entry_list_repr_under PySem.F.check_list_repr_under ⟨_, oa, rfl⟩ PySem.F.slot_list_repr.toG (PySem.F.args_list_repr_1 _) ?_
      refine wpAny_list_repr_head (A := A.in1) hg (fun v rest kw hm => listSameRef_of_ne (clr _ _ _ _ hm)) oa rfl ?_
      refine wpAny_bind (m := newList []) (wpAny_newObj_type ?_)
      refine wpAny_pure ⟨PySem.F.quiet_list_repr_loop _, ?_⟩
      have I1 : Inv X pins σ H { s with heap := s.heap.push { cls := .type "list", data := .seq ([] : List Value).toArray } } := I.kept (t' := s.toks) fun b o e => Heap.get?_push_of_some _ e
      exact rp_loop (P := s.heap.objs.size) hG hr (Nat.ne_of_lt (Heap.lt_size oa)) hg sb gd hlen hT hz _ 0 _ H #[] _ [] rfl (Nat.zero_le _) I1 x (I.fpOk (Nat.le_refl _) (I.hok.fresh (Nat.le_refl _)))
        (Heap.get?_push_size _ rfl) rfl (by simp) fun s' H' w J y => ⟨⟨_, _, rfl⟩, _, _, rfl, rfl, H', J, y⟩
theorem env_tup {args : Args} : (Code.builtin "tuple.__repr__.under" args).envs = [] := rfl
theorem wt_tup {args : Args} : (Code.builtin "tuple.__repr__.under" args).weight = 1 := by
  unfold Code.weight
  rw [isGuard_tuple_repr_under]
  rfl
/-- a tuple's items, one by one -/
theorem rp_fold (hg : A.guards = some g) (sb : Sub X k A) {E : Value → Shared → Prop} : ∀ {ds : List D} {vs : List V} {ts : List Str} {us : List Value} (acc : Array Str) (n : Nat) (s : Shared) (H : Hp) (Q : (Array Str × Nat) → Shared → Prop),
    RepL C G ds vs → Vals vs us → ts.length = ds.length → (∀ (i : Nat) (d : D), ds[i]? = some d → ∃ t, ts[i]? = some t ∧ RpX X C k d t) → (∀ d ∈ ds, GdOk C G (dep d) g) → n + piled ts ≤ sizeLine →
    Inv X pins σ H s → Ex G H → (∀ s' H', Inv X pins σ H' s' → Ex H H' → Q ⟨acc ++ ts.toArray, n + piled ts⟩ s') → wpAny (model X.prog X.w) A (forIn us (⟨acc, n⟩ : (Array Str × Nat)) tupBody) Q E s
  | [], _, ts, _, acc, n, s, H, Q, .nil, .nil, hl, _, _, _, I, _, h => by
    have : ts = [] := List.eq_nil_of_length_eq_zero hl
    subst this
    have h0 := h s H I (Ex.refl H)
    simp only [List.forIn_nil]
    exact wpAny_pure (by simpa [piled] using h0)
  | d :: ds, _, ts, _, acc, n, s, H, Q, .cons rd rl, .cons ru rr, hl, hT, gd, hn, I, x, h => by
    obtain ⟨t, ht, rp⟩ := hT 0 d rfl
    cases ts with
    | nil => simp at hl
    | cons t' ts =>
      have : t' = t := by simpa using ht
      subst this
      rw [piled_cons] at hn
      rw [List.forIn_cons]
      refine wpAny_bind (wpAny_bind (thn (rp (n + 1) A g pins s σ G H _ _ _ (by omega) sb hg (gd d List.mem_cons_self) I x rd ru) fun r s1 hs1 => wpAny_pure ?_))
      obtain ⟨rfl, H1, I1, x1⟩ := hs1
      refine rp_fold hg sb (acc.push r) (n + (r.length + 2)) s1 H1 Q rl rr (by simpa using hl) (fun i e he => hT (i + 1) e (by simpa using he)) (fun e he => gd e (List.mem_cons_of_mem _ he)) (by omega) I1 (x.trans x1) fun s' H' J y => ?_
      have h1 := h s' H' J (x1.trans y)
      rw [piled_cons, ← Nat.add_assoc] at h1
      simpa using h1
/-- a tuple -/
theorem rp_tup (hlen : ts.length = ds.length) (hT : ∀ (i : Nat) (d : D), ds[i]? = some d → ∃ t, ts[i]? = some t ∧ RpX X C k d t) : RpX X C (k + 1) (.tup ds) (tupleText ts) := fun base A g pins s σ G H v u E hz sb hg gd I x r ru => by
  cases id r with
  | tup hG hr =>
    rename_i a vs
    cases (show u = Value.ref a from ru)
    obtain ⟨_, its, rv, o, oa, oc, n, od⟩ := I.hok a _ (x a _ hG)
    have hu : A.units + 200 < cLine := by have := sb.room.un; omega
    have l1 := rv.length
    have l2 := hr.len
    have clr : Clear g a := gd.clear r
    have big : (tupleText ts).length ≤ sizeLine := by omega
    have pile := piled_le_tupleText ts
    refine wpAny_pyReprUnder_ref (by omega) ?_
    refine wpAny_pyReprObjUnder_twin (twin := "tuple.__repr__.under") ⟨o, oa, oc⟩ PySem.F.slot_tuple_repr rfl (by omega) ?_
    refine call_twin_own (PySem.F.quiet_tuple_repr_under _) PySem.F.entry_tuple_repr_under PySem.F.check_tuple_repr_under ⟨o, oa, oc⟩ PySem.F.slot_tuple_repr (PySem.F.args_tuple_repr_1 _) ?_
    rw [tuple_repr_tree, tupleReprUnderWay_eq]
    refine wpOwn_bind (wpOwn_stackTailAny hg (tupGuardF_off _) (tupGuardF_pos _) ?_)
    have no : (g.any fun c => tupGuardF (.ref a) (c, default)) = false := by
      rw [List.any_eq_false]
      intro c hc
      rw [tupGuardF_of_clear clr c hc]
      decide
    rw [no]
    refine wpOwn_of_wpAny ?_
    show wpAny _ _ (tupleReprRest base (.ref a)) _ _ _
    unfold tupleReprRest Builtin.Tuple.tupleItemsOf
    refine wpAny_bind (wpAny_bind (wpAny_seqItems oa od (wpAny_pure ?_)))
    rw [← Array.forIn_toList]
    refine wpAny_bind (rp_fold (k := k) (G := G) (C := C) (pins := pins) (σ := σ) (guards_under_guard (isGuard_tuple_repr_under _) hg) (sub_guard sb (units_under_tuple_repr_under _ _) wt_tup env_tup) #[] base s H _ hr (us := its) (by simpa using rv) hlen hT
      (fun d hd => gd.down r ?_) (by omega) I x fun s' H' J y => ?_)
    · obtain ⟨i, hi⟩ := List.getElem?_of_mem hd
      have := dep_le hi
      rw [dep]; omega
    · refine wpAny_bind (wpAny_mkStr (wpAny_pure ?_) ?_)
      · have e : its.toArray.size = ts.length := by simp; omega
        refine ⟨⟨_, _, rfl⟩, _, _, rfl, ?_, H', J.tok _, y⟩
        simp [tupleText, e]
      · have e : its.toArray.size = ts.length := by simp; omega
        simpa [tupleText, e] using big
end
end GD
/-! repr(x), {x!r} of data with own instances. -/
namespace GD
open PySem L2 GX PyProof.Rows
open Evl (Ex)
section
variable {X : Cx} {C : CT} {k : Nat} {G H : Hp} {pins : List (Addr × Obj)} {σ : L2.St} {a : Addr} {ds : List D} {vs : List V} {ts : List Str} {A : Around} {s : Shared} {E : Value → Shared → Prop}
/-- a text has come, the heap grew -/
def TxB (X : Cx) (pins : List (Addr × Obj)) (σ : L2.St) (H : Hp) (t : Str) (r : Value) (s' : Shared) : Prop := ∃ x w, r = .str x w ∧ x = t ∧ ∃ H', Inv X pins σ H' s' ∧ Ex H H'
theorem lst_call (hg : A.guards = some []) (sb : Sub X (k + 1) A) (I : Inv X pins σ H s) (x : Ex G H) (hG : G a = some (.lst vs)) (hr : RepL C G ds vs) (hlen : ts.length = ds.length)
    (hT : ∀ (i : Nat) (d : D), ds[i]? = some d → ∃ t, ts[i]? = some t ∧ RpX X C k d t) (hz : (listText ts).length ≤ sizeLine) : wpAny (model X.prog X.w) A (call (.builtin "list.__repr__") [.ref a]) (TxB X pins σ H (listText ts)) E s := by
  obtain ⟨_, its, n, rv, oa⟩ := I.hok a _ (x a _ hG)
  have l1 := rv.length
  have l2 := hr.len
  cases its with
  | nil =>
    have e0 : ds = [] := List.eq_nil_of_length_eq_zero (by rw [← l2, l1]; rfl)
    subst e0
    have e1 : ts = [] := List.eq_nil_of_length_eq_zero hlen
    subst e1
    exact call_list_repr_empty ⟨_, oa, rfl⟩ oa rfl ⟨_, _, rfl, listText_nil.symm, H, I.tok _, Ex.refl H⟩
  | cons y l =>
    refine wpAny_call (codeAny_call_builtin PySem.F.slot_list_repr.plain PySem.F.entry_list_repr (PySem.F.slot_list_repr.check _ _ _ _ _ _ _ _ ⟨_, oa, rfl⟩ (PySem.F.args_list_repr_1 _) ?_))
    refine wpAny_list_repr_head (A := A.in1) (b := 0) hg (fun v rest kw hm => nomatch hm) oa rfl ?_
    refine wpAny_bind (m := newList []) (wpAny_newObj_type ?_)
    refine wpAny_pure ⟨PySem.F.quiet_list_repr_loop _, ?_⟩
    have I1 : Inv X pins σ H { s with heap := s.heap.push { cls := .type "list", data := .seq ([] : List Value).toArray } } := I.kept (t' := s.toks) fun b o e => Heap.get?_push_of_some _ e
    exact rp_loop (base := 0) (P := s.heap.objs.size) hG hr (Nat.ne_of_lt (Heap.lt_size oa)) hg sb (GdOk.nil) hlen hT (by omega) _ 0 _ H #[] _ [] rfl (Nat.zero_le _) I1 x (I.fpOk (Nat.le_refl _) (I.hok.fresh (Nat.le_refl _)))
      (Heap.get?_push_size _ rfl) rfl (by simp) fun s' H' w J y => ⟨_, _, rfl, rfl, H', J, y⟩
theorem wt_tup0 {args : Args} : (Code.builtin "tuple.__repr__" args).weight = 1 := by
  unfold Code.weight
  rw [isGuard_tuple_repr]
  rfl
theorem tup_call (hg : A.guards = some []) (sb : Sub X (k + 1) A) (I : Inv X pins σ H s) (x : Ex G H) (hG : G a = some (.tup vs)) (hr : RepL C G ds vs) (hlen : ts.length = ds.length)
    (hT : ∀ (i : Nat) (d : D), ds[i]? = some d → ∃ t, ts[i]? = some t ∧ RpX X C k d t) (hz : (tupleText ts).length ≤ sizeLine) : wpAny (model X.prog X.w) A (call (.builtin "tuple.__repr__") [.ref a]) (TxB X pins σ H (tupleText ts)) E s := by
  obtain ⟨_, its, rv, o, oa, oc, n, od⟩ := I.hok a _ (x a _ hG)
  have l1 := rv.length
  have l2 := hr.len
  have pile := piled_le_tupleText ts
  refine wpAny_call (codeAny_call_builtin_own (Code.quiet_builtin _ (by decide +kernel)) PySem.F.entry_tuple_repr (PySem.F.slot_tuple_repr.check _ _ _ _ _ _ _ _ ⟨o, oa, oc⟩ (PySem.F.args_tuple_repr_1 _) ?_))
  show wpOwn _ _ _ (Builtin.tupleReprAt 0 ⟨[.ref a], []⟩) _ _ _
  rw [tuple_repr_tree, tupleReprUnderWay_eq]
  refine wpOwn_bind (wpOwn_stackTailAny hg (tupGuardF_off _) (tupGuardF_pos _) ?_)
  show wpOwn _ _ _ (if false = true then _ else _) _ _ _
  rw [if_neg (by decide)]
  refine wpOwn_of_wpAny ?_
  unfold tupleReprRest Builtin.Tuple.tupleItemsOf
  refine wpAny_bind (wpAny_bind (wpAny_seqItems oa od (wpAny_pure ?_)))
  rw [← Array.forIn_toList]
  refine wpAny_bind (rp_fold (k := k) (G := G) (C := C) (pins := pins) (σ := σ) (guards_under_guard (isGuard_tuple_repr _) hg) (sub_guard sb (units_under_tuple_repr _ _) wt_tup0 rfl) #[] 0 s H _ hr (us := its) (by simpa using rv) hlen hT
    (fun d hd => GdOk.down (d := .tup ds) GdOk.nil (.tup hG hr) ?_) (by omega) I x fun s' H' J y => ?_)
  · obtain ⟨i, hi⟩ := List.getElem?_of_mem hd
    have := dep_le hi
    rw [dep]; omega
  · refine wpAny_bind (wpAny_mkStr (wpAny_pure ?_) ?_)
    · have e : its.toArray.size = ts.length := by simp; omega
      refine ⟨_, _, rfl, ?_, H', J.tok _, y⟩
      simp [tupleText, e]
    · have e : its.toArray.size = ts.length := by simp; omega
      simpa [tupleText, e] using hz

/-! ### own instances -/
/-- the own __repr__ of the c-th class, at fields ds -/
structure OwnR (X : Cx) (C : CT) (k c : Nat) (ds : List D) (t : Str) : Prop where
  ex : ∃ (f : Addr) (fd : FuncData) (pre : List D → Prop) (post : List D → D → Prop), FnOk X.prog X.w X.K X.mg X.base CX0 k f fd ["self"] (spD C pre post) ∧ Binds X.K fd ["self"] [] ∧
    PySem.W.findIn X.K (.ref (C c).1) "__repr__" = some (some (.ref f)) ∧ PySem.W.isFn X.K (.ref f) = true ∧ pre [.ins c ds] ∧ ∀ d, post [.ins c ds] d → d = .str t
theorem own_run {c : Nat} {t : Str} {f : Addr} {fd : FuncData} {pre : List D → Prop} {post : List D → D → Prop} (sb : Sub X k A) (F : FnOk X.prog X.w X.K X.mg X.base CX0 k f fd ["self"] (spD C pre post)) (hb : Binds X.K fd ["self"] []) (hp : pre [.ins c ds])
    (hq : ∀ d, post [.ins c ds] d → d = .str t) (I : Inv X pins σ H s) (x : Ex G H) (r : Rep C G (.ins c ds) (.ref a)) : wpAny (model X.prog X.w) A (call (.ref f) [.ref a]) (TxB X pins σ H t) E s := by
  refine wpAny_mono (run_at (σ := σ) (H := H) (Q := fun v H' => v = .str t ∧ Ex H H') (E := E0) (vs := [.ref a]) sb F hb I (va .nil) ⟨G, [.ins c ds], x, .cons (.of r) .nil, hp, fun d v G2 H2 hd rv st => ?_⟩) (fun u s' z => ?_) fun _ _ z => z
  · rw [hq d hd] at rv
    cases rv
    exact ⟨rfl, fun b o q => st.k b o q (by simp)⟩
  · obtain ⟨v, H', J, rw', rfl, y⟩ := z
    obtain ⟨w, rfl⟩ := rw'
    exact ⟨t, w, rfl, rfl, H', J, y⟩
theorem rp_own {c : Nat} {t : Str} (h : OwnR X C k c ds t) : RpX X C (k + 1) (.ins c ds) t := fun base A g pins s σ G H v u E hz sb hg gd I x r ru => by
  obtain ⟨f, fd, pre, post, F, hb, hs, hf, hp, hq⟩ := h.ex
  cases id r with
  | ins hG hr hl0 =>
    rename_i a dx vs
    cases (show u = Value.ref a from ru)
    obtain ⟨mA, OA, _⟩ := ins_get I.hok (x _ _ hG)
    obtain ⟨oa, JA, _⟩ := OA.look
    refine wpAny_pyReprUnder_ref (by omega) ?_
    unfold pyReprObjUnder pyReprObjBy
    refine wpAny_bind (wpAny_cRoomFor (by have := sb.room.un; omega) ?_)
    refine wpAny_bind (wpAny_bind (JA.type.here ((PySem.W.looks_findIn I.kIn hs).here ?_)))
    show wpAny _ _ (if (some (Value.ref f)).isNone = true then _ else _) _ _ _
    rw [if_neg (by simp)]
    have run := own_run (E := E) (sb.mono (Nat.le_succ k)) F hb hp hq I x r
    have fin : wpAny (model X.prog X.w) A (call (.ref f) ([.ref a] ++ []) >>= fun v => pure (some v)) (fun r s' => ∃ w, r = some w ∧ TxB X pins σ H t w s') E s := wpAny_bind (wpAny_mono run (fun v s' h' => wpAny_pure ⟨v, rfl, h'⟩) fun _ _ h' => h')
    refine wpAny_bind (m := callSpecialIfBoundBy? _ (.ref a) (Str.ofString "__repr__")) (wpAny_mono (Q := fun r s' => ∃ w, r = some w ∧ TxB X pins σ H t w s') ?_ (fun r s' hr => ?_) fun _ _ z => z)
    · simp only [callSpecialIfBoundBy?, bindSpecialIfBound?]
      refine wpAny_holding (wpAny_bind (wpAny_bind (wpAny_bind (JA.type.here ((PySem.W.looks_findIn I.kIn hs).here ?_)))))
      refine wpAny_bind (wpAny_askSetting (wpAny_ite ?_))
      split
      · exact wpAny_bind ((PySem.W.bind_fn I.kIn _ (beq_iff_eq.mp hf)).here (wpAny_pure (by exact fin)))
      · exact wpAny_tryCatch (wpAny_bind ((PySem.W.bind_fn I.kIn _ (beq_iff_eq.mp hf)).here (wpAny_pure (by exact fin))))
    · obtain ⟨w, rfl, y, z, rfl, rfl, rest⟩ := hr
      exact wpAny_bind (wpAny_isInstance (T := "str") (b := true) rfl isSubtype_str_str (wpAny_pure ⟨_, _, rfl, rfl, rest⟩))
end
/-! ### all data -/
mutual
theorem rp_all {X : Cx} {C : CT} {k : Nat} : ∀ {d : D} {t : Str}, Shw (OwnR X C k) d t → RpX X C (k + 1 + dep d) d t
  | _, _, .non => RpX.leaf fun G v u r ru => by cases r; cases ru; exact ReprIs.none
  | _, _, .bl b => RpX.leaf fun G v u r ru => by cases r; cases ru; exact ReprIs.bool b
  | _, _, .int h => RpX.leaf fun G v u r ru => by cases r; obtain ⟨t, rfl⟩ := ru; exact ReprIs.int t h
  | _, _, .str h => RpX.leaf fun G v u r ru => by cases r; obtain ⟨t, rfl⟩ := ru; exact ReprIs.str _ t h
  | _, _, .lst h hz => by
    have := rp_allL h
    rw [dep]
    exact rp_lst this.1 this.2
  | _, _, .tup h hz => by
    have := rp_allL h
    rw [dep]
    exact rp_tup this.1 this.2
  | _, _, .ins h => (rp_own h).mono (by simp [dep])
theorem rp_allL {X : Cx} {C : CT} {k : Nat} : ∀ {ds : List D} {ts : List Str}, ShwL (OwnR X C k) ds ts → ts.length = ds.length ∧ ∀ (i : Nat) (d : D), ds[i]? = some d → ∃ t, ts[i]? = some t ∧ RpX X C (k + 1 + depL ds) d t
  | _, _, .nil => ⟨rfl, fun i d h => by simp at h⟩
  | d :: ds, t :: ts, .cons h hl => by
    have h1 := rp_all h
    have h2 := rp_allL hl
    refine ⟨by simp [h2.1], fun i e he => ?_⟩
    cases i with
    | zero =>
      have : d = e := by simpa using he
      subst this
      exact ⟨t, rfl, h1.mono (by rw [depL]; omega)⟩
    | succ i =>
      obtain ⟨t', ht, rp⟩ := h2.2 i e (by simpa using he)
      exact ⟨t', by simpa using ht, rp.mono (by rw [depL]; omega)⟩
end
section
variable {X : Cx} {C : CT} {k j : Nat}
/-- what repr hands back -/
def rRpX (X : Cx) (C : CT) (k j : Nat) : List V → Hp → VK → Prop := fun xs H Q => ∃ (v : V) (d : D) (t : Str) (G : Hp), xs = [v] ∧ Ex G H ∧ Rep C G d v ∧ Shw (OwnR X C k) d t ∧ k + dep d + 3 ≤ j ∧ ∀ H', Ex H H' → Q (.str t) H'
theorem obj_all {pins : List (Addr × Obj)} {σ : L2.St} {G H : Hp} {A : Around} {s : Shared} {E : Value → Shared → Prop} {d : D} {t : Str} {v : V} {u : Value} (hg : A.guards = some []) (sb : Sub X (k + dep d + 2) A) (I : Inv X pins σ H s) (x : Ex G H) (r : Rep C G d v) (ru : RelV v u) (hs : Shw (OwnR X C k) d t) :
    wpAny (model X.prog X.w) A (pyReprObj u) (TxB X pins σ H t) E s := by
  have hu : A.units < cLine := by have := sb.room.un; omega
  cases hs with
  | non => cases r; cases ru; exact pyReprObj_none ⟨_, _, rfl, rfl, H, I.tok _, Ex.refl H⟩
  | bl b => cases r; cases ru; exact pyReprObj_bool ⟨_, _, rfl, rfl, H, I.tok _, Ex.refl H⟩
  | int h => cases r; obtain ⟨w, rfl⟩ := ru; exact pyReprObj_int h ⟨_, _, rfl, rfl, H, I.tok _, Ex.refl H⟩
  | str h => cases r; obtain ⟨w, rfl⟩ := ru; exact pyReprObj_str ⟨_, _, rfl, rfl, H, I.tok _, Ex.refl H⟩ h
  | lst h hz =>
    cases r with
    | lst hG hr =>
      cases ru
      have l := rp_allL h
      obtain ⟨_, its, n, rv, oa⟩ := I.hok _ _ (x _ _ hG)
      refine wpAny_pyReprObj_slot hu ⟨_, oa, rfl⟩ PySem.F.slot_list_repr.toG (wpAny_mono (lst_call (E := E) hg (sb.mono (by rw [dep]; omega)) I x hG hr l.1 l.2 hz) (fun r s' z => ?_) fun _ _ z => z)
      obtain ⟨y, w, rfl, z⟩ := z
      exact ⟨_, _, rfl, _, _, rfl, z⟩
  | tup h hz =>
    cases r with
    | tup hG hr =>
      cases ru
      have l := rp_allL h
      obtain ⟨_, its, rv, o, oa, oc, n, od⟩ := I.hok _ _ (x _ _ hG)
      refine wpAny_pyReprObj_slot hu ⟨_, oa, oc⟩ PySem.F.slot_tuple_repr (wpAny_mono (tup_call (E := E) hg (sb.mono (by rw [dep]; omega)) I x hG hr l.1 l.2 hz) (fun r s' z => ?_) fun _ _ z => z)
      obtain ⟨y, w, rfl, z⟩ := z
      exact ⟨_, _, rfl, _, _, rfl, z⟩
  | ins h =>
    obtain ⟨f, fd, pre, post, F, hb, hs, hf, hp, hq⟩ := h.ex
    cases id r with
    | ins hG hr hl0 =>
      cases ru
      obtain ⟨mA, OA, _⟩ := ins_get I.hok (x _ _ hG)
      obtain ⟨oa, JA, _⟩ := OA.look
      unfold pyReprObj
      refine wpAny_bind (wpAny_cRoomFor hu ?_)
      refine wpAny_bind (wpAny_bind (JA.type.here ((PySem.W.looks_findIn I.kIn hs).here ?_)))
      show wpAny _ _ (if (some (Value.ref f)).isNone = true then _ else _) _ _ _
      rw [if_neg (by simp)]
      refine wpAny_bind (m := callSpecialIfBound? _ (Str.ofString "__repr__") _) (PySem.W.ifBound_K I.kIn JA hs hf (wpAny_mono (own_run (E := E) (sb.mono (by omega)) F hb hp hq I x r) (fun r s' z => ?_) fun _ _ z => z))
      obtain ⟨y, w, rfl, z⟩ := z
      exact wpAny_bind (wpAny_isInstance (T := "str") (b := true) rfl isSubtype_str_str (wpAny_pure ⟨_, _, rfl, z⟩))
end
end GD
/-! == of lists and tuples that hold instances of own classes. -/
namespace GD
open PySem L2 GX PyProof.Rows
open Evl (Ex)
theorem fsOf_inj {ns : List Str} {vs ws : List V} (hn : ns.Nodup) (hv : vs.length = ns.length) (hw : ws.length = ns.length) (h : fsOf ns vs [] = fsOf ns ws []) : vs = ws := by
  apply List.ext_getElem?
  intro k
  rcases Nat.lt_or_ge k ns.length with hk | hk
  · have e1 := lookup_fsOf (acc := []) (k := k) hn (List.getElem?_eq_getElem hk) (List.getElem?_eq_getElem (show k < vs.length by omega))
    have e2 := lookup_fsOf (acc := []) (k := k) hn (List.getElem?_eq_getElem hk) (List.getElem?_eq_getElem (show k < ws.length by omega))
    rw [h, e2] at e1
    rw [List.getElem?_eq_getElem (show k < vs.length by omega), List.getElem?_eq_getElem (show k < ws.length by omega), ← Option.some.inj e1]
  · rw [List.getElem?_eq_none (by omega), List.getElem?_eq_none (by omega)]
def flD : D → Option V
  | .non => some .non
  | .bl b => some (.bl b)
  | .int i => some (.int i)
  | .str x => some (.str x)
  | _ => none
theorem flD_V {C : CT} {G : Hp} {d : D} {v w : V} (h : flD d = some w) (r : Rep C G d v) : v = w ∧ flatV v = true := by
  cases r <;> cases h <;> exact ⟨rfl, rfl⟩
mutual
/-- == by data; oe: of instances of one class -/
def eqd (oe : Nat → List D → List D → Bool) : D → D → Bool
  | .lst ds, .lst es => eqdL oe ds es && ds.length == es.length
  | .tup ds, .tup es => eqdL oe ds es && ds.length == es.length
  | .ins c ds, .ins _ es => oe c ds es
  | .non, e => (flD e).elim false (eqV .non)
  | .bl b, e => (flD e).elim false (eqV (.bl b))
  | .int i, e => (flD e).elim false (eqV (.int i))
  | .str x, e => (flD e).elim false (eqV (.str x))
  | _, _ => false
def eqdL (oe : Nat → List D → List D → Bool) : List D → List D → Bool
  | d :: ds, e :: es => eqd oe d e && eqdL oe ds es
  | _, _ => true
end
theorem eqd_flat {oe : Nat → List D → List D → Bool} {d e : D} {v w : V} (h1 : flD d = some v) (h2 : flD e = some w) : eqd oe d e = eqV v w := by
  cases d <;> cases h1 <;> simp [eqd, h2]
mutual
/-- what may be compared -/
inductive Cm (own : Nat → List D → List D → Prop) : D → D → Prop
  | flat {d e : D} {v w : V} : flD d = some v → flD e = some w → Cm own d e
  | lst {ds es : List D} : (ds.length = es.length → CmL own ds es) → Cm own (.lst ds) (.lst es)
  | tup {ds es : List D} : CmL own ds es → Cm own (.tup ds) (.tup es)
  | ins {c : Nat} {ds es : List D} : own c ds es → Cm own (.ins c ds) (.ins c es)
inductive CmL (own : Nat → List D → List D → Prop) : List D → List D → Prop
  | nil {es : List D} : CmL own [] es
  | nil' {ds : List D} : CmL own ds []
  | cons {d e : D} {ds es : List D} : Cm own d e → CmL own ds es → CmL own (d :: ds) (e :: es)
end
/-- the own __eq__ of the c-th class on these fields -/
structure OwnE (X : Cx) (C : CT) (oe : Nat → List D → List D → Bool) (k c : Nat) (ds es : List D) : Prop where
  ex : ∃ (f : Addr) (fd : FuncData) (pre : List D → Prop) (post : List D → D → Prop), FnOk X.prog X.w X.K X.mg X.base CX0 k f fd ["self", "other"] (spD C pre post) ∧ Binds X.K fd ["self", "other"] [] ∧
    PySem.W.findIn X.K (.ref (C c).1) "__eq__" = some (some (.ref f)) ∧ PySem.W.isFn X.K (.ref f) = true ∧ pre [.ins c ds, .ins c es] ∧ ∀ d, post [.ins c ds, .ins c es] d → d = .bl (oe c ds es)
  same : ds = es → oe c ds es = true
  nd : (C c).2.Nodup
  fl : ∀ d ∈ ds ++ es, (flD d).isSome = true
/-- u == v inside a list or tuple, wherever below -/
def EqX (X : Cx) (C : CT) (k : Nat) (d e : D) (b : Bool) : Prop := ∀ (A : Around) (pins : List (Addr × Obj)) (s : Shared) (σ : L2.St) (G H : Hp) (v w : V) (u z : Value) (E : Value → Shared → Prop),
  L2.Sub X k A → Inv X pins σ H s → Ex G H → Rep C G d v → Rep C G e w → RelV v u → RelV w z → wpAny (model X.prog X.w) A (eqBool u z) (fun r s' => r = b ∧ ∃ H', Inv X pins σ H' s' ∧ Ex H H') E s
theorem EqX.mono {X : Cx} {C : CT} {k j : Nat} {d e : D} {b : Bool} (h : EqX X C k d e b) (hk : k ≤ j) : EqX X C j d e b := fun A pins s σ G H v w u z E sb => h A pins s σ G H v w u z E (sb.mono hk)
/-- richCompare of references -/
def RcX (X : Cx) (C : CT) (k : Nat) (d e : D) (b : Bool) : Prop := ∀ (A : Around) (pins : List (Addr × Obj)) (s : Shared) (σ : L2.St) (G H : Hp) (p q : Addr) (E : Value → Shared → Prop),
  L2.Sub X k A → Inv X pins σ H s → Ex G H → Rep C G d (.ref p) → Rep C G e (.ref q) → wpAny (model X.prog X.w) A (richCompare .Eq (.ref p) (.ref q)) (fun r s' => r = .bool b ∧ ∃ H', Inv X pins σ H' s' ∧ Ex H H') E s
section
variable {C : CT} {G : Hp} {oe : Nat → List D → List D → Bool} {X : Cx} {k : Nat}
theorem flat_det : ∀ {ds es : List D} {vs : List V}, (∀ d ∈ ds ++ es, (flD d).isSome = true) → RepL C G ds vs → RepL C G es vs → ds = es
  | [], [], _, _, .nil, .nil => rfl
  | [], _ :: _, _, _, .nil, r => nomatch r
  | _ :: _, [], _, _, r, .nil => nomatch r
  | d :: ds, e :: es, _, h, .cons r1 l1, .cons r2 l2 => by
    have t := flat_det (ds := ds) (es := es) (fun x hx => h x (by
      rcases List.mem_append.mp hx with z | z
      · exact List.mem_append_left _ (List.mem_cons_of_mem _ z)
      · exact List.mem_append_right _ (List.mem_cons_of_mem _ z))) l1 l2
    have h1 := h d (by simp)
    have h2 := h e (by simp)
    rw [t]
    congr 1
    cases r1 <;> cases r2 <;> first | rfl | cases h1 | cases h2
mutual
theorem same_eqd : ∀ {d e : D} {v : V}, Cm (OwnE X C oe k) d e → Rep C G d v → Rep C G e v → eqd oe d e = true
  | _, _, _, .flat h1 h2, r1, r2 => by
    rw [eqd_flat h1 h2, ← (flD_V h1 r1).1, ← (flD_V h2 r2).1]
    cases r1 <;> first | (simp [eqV]; done) | cases h1
  | _, _, _, .lst h, .lst g1 l1, .lst g2 l2 => by
    rw [g1] at g2
    cases g2
    have hl : _ = _ := l1.len.symm.trans l2.len
    rw [eqd, same_eqdL (h hl) l1 l2, hl]
    simp
  | _, _, _, .tup h, .tup g1 l1, .tup g2 l2 => by
    rw [g1] at g2
    cases g2
    have hl : _ = _ := l1.len.symm.trans l2.len
    rw [eqd, same_eqdL h l1 l2, hl]
    simp
  | _, _, _, .ins h, .ins g1 l1 n1, .ins g2 l2 n2 => by
    rw [g1] at g2
    injection g2 with g2
    injection g2 with _ _ g3
    have := fsOf_inj h.nd (by rw [l1.len, n1]) (by rw [l2.len, n2]) g3
    subst this
    rw [eqd, h.same (flat_det h.fl l1 l2)]
theorem same_eqdL : ∀ {ds es : List D} {vs : List V}, CmL (OwnE X C oe k) ds es → RepL C G ds vs → RepL C G es vs → eqdL oe ds es = true
  | _, _, _, .nil, _, _ => by simp [eqdL]
  | _, _, _, .nil', r1, .nil => by cases r1; simp [eqdL]
  | _, _, _, .cons h hl, .cons r1 l1, .cons r2 l2 => by rw [eqdL, same_eqd h r1 r2, same_eqdL hl l1 l2]; rfl
end
/-- references: the same one, or a rich comparison -/
theorem RcX.eqX {d e : D} (h : RcX X C k d e (eqd oe d e)) (c : Cm (OwnE X C oe k) d e) (hr : flD d = none ∧ flD e = none) : EqX X C k d e (eqd oe d e) := fun A pins s σ G H v w u z E sb I x r1 r2 ru rz => by
  have ref : ∀ {f : D} {v : V}, flD f = none → Rep C G f v → ∃ p, v = .ref p := fun {f v} hf r => by
    cases r <;> first | exact ⟨_, rfl⟩ | cases hf
  obtain ⟨p, rfl⟩ := ref hr.1 r1
  obtain ⟨q, rfl⟩ := ref hr.2 r2
  cases ru
  cases rz
  by_cases hpq : p = q
  · subst hpq
    unfold eqBool
    refine wpAny_holding ?_
    rw [same_eqd c r1 r2]
    refine wpAny_ite_split (fun _ => ?_) (fun hab => absurd (beq_self_eq_true (Value.ref p)) hab)
    exact wpAny_bind (wpAny_rule (wpAny_pure ⟨rfl, H, I, Ex.refl H⟩))
  · exact GQ.eqBool_refG hpq (wpAny_mono (h A pins s σ G H p q E sb I x r1 r2) (fun r s' ⟨e1, e2⟩ => ⟨_, e1, rfl, e2⟩) fun _ _ z => z)
/-! ### loops over two lists, two tuples -/
open SeqAt AutoSeq1 MeetsSeq MeetsSeq2 MeetsSeq3 SeqRoads2
variable {A : Around} {R : Result → Shared → Prop} {pins : List (Addr × Obj)} {σ : L2.St} {H0 : Hp} {p q : Addr} {ds es : List D} {vs ws : List V} {f : Nat → Bool}
def Grown (X : Cx) (pins : List (Addr × Obj)) (σ : L2.St) (H0 : Hp) (s' : Shared) : Prop := ∃ H', Inv X pins σ H' s' ∧ Ex H0 H'
theorem pair_at {s : Shared} (sb : L2.Sub X (k + 1) A) (hT : ∀ i d e, ds[i]? = some d → es[i]? = some e → EqX X C k d e (f i)) (rp : RepL C G ds vs) (rq : RepL C G es ws) (x0 : Ex G H0) (hs : Grown X pins σ H0 s) {its its2 : Array Value} (r1 : Vals vs its.toList) (r2 : Vals ws its2.toList)
    {i : Nat} (h1 : i < its.size) (h2 : i < its2.size) {E : Value → Shared → Prop} : wpAny (model X.prog X.w) A.in1 (eqBool its[i] its2[i]) (fun r s' => r = f i ∧ Grown X pins σ H0 s') E s := by
  obtain ⟨H, I, x⟩ := hs
  have c1 : i < vs.length := by rw [r1.length]; simpa using h1
  have c2 : i < ws.length := by rw [r2.length]; simpa using h2
  obtain ⟨d, hd, rd⟩ := rp.getV (List.getElem?_eq_getElem c1)
  obtain ⟨e, he, re⟩ := rq.getV (List.getElem?_eq_getElem c2)
  obtain ⟨u, hu, ru⟩ := r1.get (List.getElem?_eq_getElem c1)
  obtain ⟨z, hz, rz⟩ := r2.get (List.getElem?_eq_getElem c2)
  have u1 : u = its[i] := by
    have e1 : its.toList[i]? = some its[i] := by simp [h1]
    rw [e1] at hu; exact (Option.some.inj hu).symm
  have z1 : z = its2[i] := by
    have e1 : its2.toList[i]? = some its2[i] := by simp [h2]
    rw [e1] at hz; exact (Option.some.inj hz).symm
  rw [← u1, ← z1]
  refine wpAny_mono (hT i d e hd he A.in1 pins s σ G H _ _ u z E sb.in1 I (x0.trans x) rd re ru rz) (fun r s' hr => ?_) fun _ _ w => w
  obtain ⟨e1, H', I', x'⟩ := hr
  exact ⟨e1, H', I', x.trans x'⟩
theorem eqx_loop (sb : L2.Sub X (k + 1) A) (hp : G p = some (.lst vs)) (hq : G q = some (.lst ws)) (rp : RepL C G ds vs) (rq : RepL C G es ws) (hn : ds.length = es.length) (hT : ∀ i d e, ds[i]? = some d → es[i]? = some e → EqX X C k d e (f i)) (x0 : Ex G H0)
    (fin : ∀ s', Grown X pins σ H0 s' → R (.ok (.ret (.bool ((List.range ds.length).all f)))) s') (m : Nat) :
    ∀ i : Nat, ds.length - i = m → i ≤ ds.length → (∀ j, j < i → f j = true) → ∀ s, Grown X pins σ H0 s →
      wpAny (model X.prog X.w) A.in1 (Builtin.«list.__eq__.loop» ⟨[.ref p, .ref q, rawInt i, rawInt 2], []⟩) (GQ.FinOf X.prog X.w A R) (fun e s' => R (.error e) s') s := by
  induction m with
  | zero =>
    intro i hm hi past s hs
    obtain ⟨H, I, x⟩ := id hs
    obtain ⟨_, its, n1, r1, o1⟩ := I.hok p _ (x _ _ (x0 _ _ hp))
    obtain ⟨_, its2, n2, r2, o2⟩ := I.hok q _ (x _ _ (x0 _ _ hq))
    have la : its.length = ds.length := by rw [← r1.length, rp.len]
    have lb : its2.length = ds.length := by rw [← r2.length, rq.len, hn]
    have ie : i = ds.length := by omega
    have all : (List.range ds.length).all f = true := by
      rw [List.all_eq_true]
      intro j hj
      exact past j (by rw [ie]; exact List.mem_range.mp hj)
    have hR := fin s hs
    rw [all] at hR
    obtain ⟨hp0, g0, d0, tk0, os0⟩ := s
    wp_walk using wpAny_loadPart' o1, wpAny_loadPart' o2
    have out1 : its.toArray[((i : Nat) : Int).toNat]? = none := by simp; omega
    have out2 : its2.toArray[((i : Nat) : Int).toNat]? = none := by simp; omega
    rw [out1, out2]
    wp_walk using wpAny_loadPart' o1, wpAny_loadPart' o2
    show R (.ok (.ret (.bool (its.toArray.size == its2.toArray.size)))) _
    rw [List.size_toArray, List.size_toArray, la, lb]
    simpa using hR
  | succ m ih =>
    intro i hm hi past s hs
    obtain ⟨H, I, x⟩ := id hs
    obtain ⟨_, its, n1, r1, o1⟩ := I.hok p _ (x _ _ (x0 _ _ hp))
    obtain ⟨_, its2, n2, r2, o2⟩ := I.hok q _ (x _ _ (x0 _ _ hq))
    have la : its.length = ds.length := by rw [← r1.length, rp.len]
    have lb : its2.length = ds.length := by rw [← r2.length, rq.len, hn]
    have lt1 : i < its.toArray.size := by simp; omega
    have lt2 : i < its2.toArray.size := by simp; omega
    have turn := pair_at (E := fun e s' => R (.error e) s') sb hT rp rq x0 hs (its := its.toArray) (its2 := its2.toArray) (by simpa using r1) (by simpa using r2) lt1 lt2
    obtain ⟨hp0, g0, d0, tk0, os0⟩ := s
    wp_walk using wpAny_loadPart' o1, wpAny_loadPart' o2
    have in1' : its.toArray[((i : Nat) : Int).toNat]? = some its.toArray[i] := by rw [Int.toNat_natCast]; exact Array.getElem?_eq_getElem lt1
    have in2' : its2.toArray[((i : Nat) : Int).toNat]? = some its2.toArray[i] := by rw [Int.toNat_natCast]; exact Array.getElem?_eq_getElem lt2
    rw [in1', in2']
    refine wpAny_bind (wpAny_mono turn (fun r s2 h2 => ?_) fun _ _ w => w)
    obtain ⟨rfl, h2⟩ := h2
    cases hf : f i with
    | true =>
      have rec_ := ih (i + 1) (by omega) (by omega) (fun j hj => by
        by_cases hji : j = i
        · rw [hji]; exact hf
        · exact past j (by omega)) s2 h2
      obtain ⟨hp1, g1, d1, tk1, os1⟩ := s2
      wp_walk
      rw [show ((i : Int) + 1) = ((i + 1 : Nat) : Int) by omega]
      exact ⟨plainId_quiet plain_eq_loop _, codeAny_builtin entry_eq_loop (by
        rw [Around.under_plainId plain_eq_loop _]; exact rec_)⟩
    | false =>
      have none_ : (List.range ds.length).all f = false := by
        rw [List.all_eq_false]
        exact ⟨i, List.mem_range.mpr (by omega), by rw [hf]; decide⟩
      have hR := fin s2 h2
      rw [none_] at hR
      obtain ⟨H2, I2, x2⟩ := h2
      obtain ⟨_, jts, k1, q1, c1⟩ := I2.hok p _ (x2 _ _ (x0 _ _ hp))
      obtain ⟨_, jts2, k2, q2, c2⟩ := I2.hok q _ (x2 _ _ (x0 _ _ hq))
      have l1 : i < jts.toArray.size := by
        have := q1.length
        have := r1.length
        simp; omega
      have l2 : i < jts2.toArray.size := by
        have := q2.length
        have := r2.length
        simp; omega
      have j1 : jts.toArray[((i : Nat) : Int).toNat]? = some jts.toArray[i] := by rw [Int.toNat_natCast]; exact Array.getElem?_eq_getElem l1
      have j2 : jts2.toArray[((i : Nat) : Int).toNat]? = some jts2.toArray[i] := by rw [Int.toNat_natCast]; exact Array.getElem?_eq_getElem l2
      obtain ⟨hp1, g1, d1, tk1, os1⟩ := s2
      wp_walk using wpAny_loadPart' c1, wpAny_loadPart' c2
      rw [j1, j2]
      wp_walk
      simpa using hR
end
end GD
/-! == and != over data with own instances, as rules. -/
namespace GD
open PySem L2 GX PyProof.Rows
open Evl (Ex)
open SeqAt AutoSeq1 MeetsSeq MeetsSeq2 MeetsSeq3 SeqRoads2
section
variable {C : CT} {G : Hp} {oe : Nat → List D → List D → Bool} {X : Cx} {k : Nat} {ds es : List D} {f : Nat → Bool}
theorem rcx_lst (hT : ds.length = es.length → ∀ i d e, ds[i]? = some d → es[i]? = some e → EqX X C k d e (f i)) : RcX X C (k + 1) (.lst ds) (.lst es) (decide (ds.length = es.length) && (List.range ds.length).all f) := fun A pins s σ G H p q E sb I x r1 r2 => by
  cases r1 with
  | lst hp rp =>
    cases r2 with
    | lst hq rq =>
      rename_i vs ws
      obtain ⟨_, its, n1, v1, o1⟩ := I.hok p _ (x _ _ hp)
      obtain ⟨_, its2, n2, v2, o2⟩ := I.hok q _ (x _ _ hq)
      have la : its.length = ds.length := by rw [← v1.length, rp.len]
      have lb : its2.length = es.length := by rw [← v2.length, rq.len]
      have hu := sb.room.units0
      by_cases hn : ds.length = es.length
      · rw [decide_eq_true hn, Bool.true_and]
        refine wpAny_richCompare_same_room (op := .Eq) ⟨_, o1, rfl⟩ ⟨_, o2, rfl⟩ PySem.F.slot_list_eq (GQ.call_here PySem.F.slot_list_eq ⟨_, o1, rfl⟩ PySem.F.entry_list_eq (PySem.F.args_list_eq_2 _ _) ?_) hu
        have loop := eqx_loop (A := A) (R := wants (fun v s' => v ≠ .notImplemented ∧ (v = .bool ((List.range ds.length).all f) ∧ ∃ H', Inv X pins σ H' s' ∧ Ex H H')) E) (pins := pins) (σ := σ) (H0 := H) sb hp hq rp rq hn (hT hn) x
          (fun s' hs => ⟨(fun z => nomatch z), rfl, hs⟩) _ 0 rfl (Nat.zero_le _) (fun j hj => absurd hj (Nat.not_lt_zero j)) s ⟨H, I, Ex.refl H⟩
        obtain ⟨hp0, g0, d0, tk0, os0⟩ := s
        have f3 := AutoSeq1.sub_list_list
        have hne : ¬ (its.toArray.size != its2.toArray.size) = true := by simp [la, lb, hn]
        wp_walk using wpAny_loadPart' o1, wpAny_loadPart' o2
        exact ⟨plainId_quiet plain_eq_loop _, codeAny_builtin entry_eq_loop (by
          rw [Around.under_plainId plain_eq_loop _]; exact loop)⟩
      · rw [decide_eq_false hn, Bool.false_and]
        exact RcAt.lists_lengths ⟨_, o1, rfl, _, rfl⟩ ⟨_, o2, rfl, _, rfl⟩ (by simp [la, lb, hn]) hu X.prog X.w E _ ⟨rfl, H, I, Ex.refl H⟩
theorem rcx_tup (hT : ∀ i d e, ds[i]? = some d → es[i]? = some e → EqX X C k d e (f i)) : RcX X C (k + 1) (.tup ds) (.tup es) ((List.range (min ds.length es.length)).all f && ds.length == es.length) := fun A pins s σ G H p q E sb I x r1 r2 => by
  cases r1 with
  | tup hp rp =>
    cases r2 with
    | tup hq rq =>
      rename_i vs ws
      obtain ⟨_, its, v1, ⟨c1, dd1, dt1, sl1⟩, o1, k1, n1, t1⟩ := I.hok p _ (x _ _ hp)
      obtain ⟨_, its2, v2, ⟨c2, dd2, dt2, sl2⟩, o2, k2, n2, t2⟩ := I.hok q _ (x _ _ hq)
      simp only at k1 k2 t1 t2
      subst k1 k2 t1 t2
      have la : its.length = ds.length := by rw [← v1.length, rp.len]
      have lb : its2.length = es.length := by rw [← v2.length, rq.len]
      have hu := sb.room.units0
      refine wpAny_richCompare_same_room (op := .Eq) ⟨_, o1, rfl⟩ ⟨_, o2, rfl⟩ PySem.F.slot_tuple_eq (GQ.call_here PySem.F.slot_tuple_eq ⟨_, o1, rfl⟩ PySem.F.entry_tuple_eq (PySem.F.args_tuple_eq_2 _ _) ?_) hu
      have f2 := AutoSeq1.sub_tuple_tuple
      have zl : (its.toArray.toList.zip its2.toArray.toList).length = min ds.length es.length := by simp [la, lb]
      have g0 : Grown X pins σ H s := ⟨H, I, Ex.refl H⟩
      obtain ⟨hp0, gn0, d0, tk0, os0⟩ := s
      wp_walk using wpAny_loadPart' o1, wpAny_loadPart' o2, wpAny_forIn_list _ (fun rest b s' => b.1 = none ∧ ∃ i, rest = (its.toArray.toList.zip its2.toArray.toList).drop i ∧ i ≤ min ds.length es.length ∧ (∀ j, j < i → f j = true) ∧ Grown X pins σ H s') _
      case turn =>
        rintro ⟨y, z⟩ rest b s' ⟨hb, i, hz, hi, past, hs⟩
        have lt : i < (its.toArray.toList.zip its2.toArray.toList).length := by
          rcases Nat.lt_or_ge i (its.toArray.toList.zip its2.toArray.toList).length with h' | h'
          · exact h'
          · rw [List.drop_of_length_le h'] at hz; cases hz
        have lt0 : i < min ds.length es.length := by rw [← zl]; exact lt
        have a1 : i < its.toArray.size := by simp; omega
        have a2 : i < its2.toArray.size := by simp; omega
        rw [List.drop_eq_getElem_cons lt] at hz
        injection hz with hyx hrest
        have ey : y = its.toArray[i] := by have := congrArg Prod.fst hyx; simpa using this
        have ez : z = its2.toArray[i] := by have := congrArg Prod.snd hyx; simpa using this
        rw [ey, ez]
        refine wpAny_bind (wpAny_mono (pair_at sb hT rp rq x hs (its := its.toArray) (its2 := its2.toArray) (by simpa using v1) (by simpa using v2) a1 a2) (fun r s2 h2 => ?_) fun _ _ w => w)
        obtain ⟨rfl, h2⟩ := h2
        cases hf : f i with
        | true =>
          wp_walk
          exact ⟨rfl, i + 1, hrest, by omega, fun j hj => by
            by_cases hji : j = i
            · rw [hji]; exact hf
            · exact past j (by omega), h2⟩
        | false =>
          have none_ : ((List.range (min ds.length es.length)).all f && ds.length == es.length) = false := by
            have : (List.range (min ds.length es.length)).all f = false := by
              rw [List.all_eq_false]
              exact ⟨i, List.mem_range.mpr lt0, by rw [hf]; decide⟩
            rw [this]; rfl
          wp_walk
          rw [none_]
          exact ⟨(fun w => nomatch w), rfl, h2⟩
      case fin =>
        rintro ⟨b1, b2⟩ s' ⟨hb, i, hz, hi, past, hs⟩
        simp only at hb
        subst hb
        have ge : min ds.length es.length ≤ i := by
          rcases Nat.lt_or_ge i (its.toArray.toList.zip its2.toArray.toList).length with h' | h'
          · rw [List.drop_eq_getElem_cons h'] at hz; cases hz
          · rw [zl] at h'; exact h'
        have all_ : (List.range (min ds.length es.length)).all f = true := by
          rw [List.all_eq_true]
          intro j hj
          exact past j (Nat.lt_of_lt_of_le (List.mem_range.mp hj) ge)
        wp_walk
        have tc : Builtin.Tuple.tupleCompareSizes CmpOp.Eq its.toArray.size its2.toArray.size = Value.bool ((List.range (min ds.length es.length)).all f && ds.length == es.length) := by
          rw [all_]
          simp [Builtin.Tuple.tupleCompareSizes, la, lb]
        rw [tc]
        exact ⟨(fun w => nomatch w), rfl, hs⟩
      case h =>
        exact ⟨rfl, 0, rfl, Nat.zero_le _, fun j hj => absurd hj (Nat.not_lt_zero j), g0⟩
theorem rcx_ins {c : Nat} (h : OwnE X C oe k c ds es) : RcX X C k (.ins c ds) (.ins c es) (oe c ds es) := fun A pins s σ G H p q E sb I x r1 r2 => by
  obtain ⟨fa, fd, pre, post, F, hb, hs, hf, hp, hq⟩ := h.ex
  cases id r1 with
  | ins g1 l1 n1 =>
    cases id r2 with
    | ins g2 l2 n2 =>
      obtain ⟨mA, OA, _⟩ := ins_get I.hok (x _ _ g1)
      obtain ⟨oa, JA, _⟩ := OA.look
      obtain ⟨mB, OB, _⟩ := ins_get I.hok (x _ _ g2)
      obtain ⟨ob, JB, _⟩ := OB.look
      obtain ⟨m, hF⟩ := I.fr
      refine PySem.W.cmp_K (op := .Eq) (tb := .ref (C c).1) sb.room.units0 hF I.ok.mod.kin JA JB.type (by simp [PySem.W.notFirst]) hs hf ?_
      refine wpAny_mono (run_at (σ := σ) (H := H) (Q := fun v H' => v = .bl (oe c ds es) ∧ Ex H H') (E := E0) (vs := [.ref p, .ref q]) sb F hb I (va (va .nil)) ⟨G, [.ins c ds, .ins c es], x, .cons (.of r1) (.cons (.of r2) .nil), hp, fun d v G2 H2 hd rv st => ?_⟩) (fun u s' z => ?_) fun _ _ z => z
      · rw [hq d hd] at rv
        cases rv
        exact ⟨rfl, fun b o q => st.k b o q (by simp)⟩
      · obtain ⟨v, H', J, rw', rfl, y⟩ := z
        cases (show u = Value.bool _ from rw')
        exact ⟨rfl, H', J, y⟩
theorem eqx_flat {d e : D} {v w : V} (h1 : flD d = some v) (h2 : flD e = some w) : EqX X C k d e (eqd oe d e) := fun A pins s σ G H v' w' u z E sb I x r1 r2 ru rz => by
  obtain ⟨e1, f1⟩ := flD_V h1 r1
  obtain ⟨e2, f2⟩ := flD_V h2 r2
  rw [eqd_flat h1 h2, ← e1, ← e2]
  exact eqAt_V ru rz f1 f2 X.prog X.w E _ ⟨rfl, H, I, Ex.refl H⟩
def at2 (oe : Nat → List D → List D → Bool) (ds es : List D) (i : Nat) : Bool := match ds[i]?, es[i]? with | some d, some e => eqd oe d e | _, _ => true
theorem eqdL_range : ∀ {ds es : List D}, eqdL oe ds es = (List.range (min ds.length es.length)).all (at2 oe ds es)
  | [], es => by simp [eqdL]
  | d :: ds, [] => by simp [eqdL]
  | d :: ds, e :: es => by
    rw [eqdL, eqdL_range (ds := ds) (es := es)]
    rw [List.length_cons, List.length_cons, Nat.add_min_add_right, List.range_succ_eq_map, List.all_cons, List.all_map]
    rfl
theorem OwnE.mono {j c : Nat} {ds es : List D} (h : OwnE X C oe k c ds es) (hk : k ≤ j) : OwnE X C oe j c ds es := by
  obtain ⟨⟨fa, fd, pre, post, F, rest⟩, h2, h3, h4⟩ := h
  exact ⟨⟨fa, fd, pre, post, F.mono hk, rest⟩, h2, h3, h4⟩
mutual
theorem cm_imp {p q : Nat → List D → List D → Prop} (hpq : ∀ c ds es, p c ds es → q c ds es) : ∀ {d e : D}, Cm p d e → Cm q d e
  | _, _, .flat h1 h2 => .flat h1 h2
  | _, _, .lst h => .lst fun hn => cm_impL hpq (h hn)
  | _, _, .tup h => .tup (cm_impL hpq h)
  | _, _, .ins h => .ins (hpq _ _ _ h)
theorem cm_impL {p q : Nat → List D → List D → Prop} (hpq : ∀ c ds es, p c ds es → q c ds es) : ∀ {ds es : List D}, CmL p ds es → CmL q ds es
  | _, _, .nil => .nil
  | _, _, .nil' => .nil'
  | _, _, .cons h hl => .cons (cm_imp hpq h) (cm_impL hpq hl)
end
theorem cm_mono {j : Nat} {d e : D} (h : Cm (OwnE X C oe k) d e) : Cm (OwnE X C oe (k + j)) d e := cm_imp (fun c ds es h => OwnE.mono h (Nat.le_add_right _ _)) h
mutual
def dp2 : D → Nat
  | .lst ds => dp2L ds + 1
  | .tup ds => dp2L ds + 1
  | _ => 0
def dp2L : List D → Nat
  | [] => 0
  | d :: ds => max (dp2 d) (dp2L ds)
end
mutual
theorem eqx_all : ∀ {d e : D}, Cm (OwnE X C oe k) d e → EqX X C (k + dp2 d) d e (eqd oe d e)
  | _, _, .flat h1 h2 => eqx_flat h1 h2
  | .lst ds, .lst es, .lst h => by
    have hc : Cm (OwnE X C oe k) (.lst ds) (.lst es) := .lst h
    have h0 : RcX X C (k + dp2 (.lst ds)) (.lst ds) (.lst es) (eqd oe (.lst ds) (.lst es)) := by
      have := rcx_lst (X := X) (C := C) (k := k + dp2L ds) (ds := ds) (es := es) (f := at2 oe ds es) (fun hn i d e hd he => by
        have e1 : at2 oe ds es i = eqd oe d e := by unfold at2; rw [hd, he]
        rw [e1]
        exact eqx_allL (h hn) i d e hd he)
      rw [dp2]
      have e2 : eqd oe (.lst ds) (.lst es) = (decide (ds.length = es.length) && (List.range ds.length).all (at2 oe ds es)) := by
        rw [eqd, eqdL_range]
        by_cases hn : ds.length = es.length
        · rw [hn]
          simp
        · simp [hn]
      rw [e2]
      exact this
    exact fun A pins s σ G H v w u z E sb => (RcX.eqX (k := k + dp2 (.lst ds)) (oe := oe) (X := X) (C := C) h0 (cm_mono hc) ⟨rfl, rfl⟩) A pins s σ G H v w u z E sb
  | .tup ds, .tup es, .tup h => by
    have hc : Cm (OwnE X C oe k) (.tup ds) (.tup es) := .tup h
    have h0 : RcX X C (k + dp2 (.tup ds)) (.tup ds) (.tup es) (eqd oe (.tup ds) (.tup es)) := by
      have := rcx_tup (X := X) (C := C) (k := k + dp2L ds) (ds := ds) (es := es) (f := at2 oe ds es) (fun i d e hd he => by
        have e1 : at2 oe ds es i = eqd oe d e := by unfold at2; rw [hd, he]
        rw [e1]
        exact eqx_allL h i d e hd he)
      rw [dp2, eqd, eqdL_range]
      exact this
    exact fun A pins s σ G H v w u z E sb => (RcX.eqX (k := k + dp2 (.tup ds)) (oe := oe) (X := X) (C := C) h0 (cm_mono hc) ⟨rfl, rfl⟩) A pins s σ G H v w u z E sb
  | .ins c ds, .ins _ es, .ins h => by
    have h0 := rcx_ins h
    have : EqX X C k (.ins c ds) (.ins c es) (eqd oe (.ins c ds) (.ins c es)) := RcX.eqX (by rw [eqd]; exact h0) (.ins h) ⟨rfl, rfl⟩
    exact this.mono (Nat.le_add_right _ _)
theorem eqx_allL : ∀ {ds es : List D}, CmL (OwnE X C oe k) ds es → ∀ (i : Nat) (d e : D), ds[i]? = some d → es[i]? = some e → EqX X C (k + dp2L ds) d e (eqd oe d e)
  | _, _, .nil, i, d, e, hd, _ => by simp at hd
  | _, _, .nil', i, d, e, _, he => by simp at he
  | d :: ds, e :: es, .cons h hl, 0, d', e', hd, he => by
    have e1 : d = d' := by simpa using hd
    have e2 : e = e' := by simpa using he
    rw [← e1, ← e2]
    exact (eqx_all h).mono (by rw [dp2L]; omega)
  | d :: ds, e :: es, .cons h hl, i + 1, d', e', hd, he => by
    exact (eqx_allL hl i d' e' (by simpa using hd) (by simpa using he)).mono (by rw [dp2L]; omega)
end
end
end GD
/-! Rules that are read backwards: what is wanted behind. -/
namespace GD
open PySem L2 GX PyProof.Rows
open Evl (Ex)
section
variable {A : Amb} {ρ : Ro} {te ta tb : TE} {tt tu : TT} {tl : TA} {R : D → Prop} {x y z d e : D} {K : PySem.W.Frag}
theorem w_var {i : Nat} (h : ρ[i]? = some (some (Sl.val d))) (r : R d) : DE A ρ (tVar i) R := (de_var h).imp fun _ e => e ▸ r
theorem w_int {i : Int} (r : R (.int i)) : DE A ρ (tC (.int i)) R := de_int.imp fun _ e => e ▸ r
theorem w_bl {b : Bool} (r : R (.bl b)) : DE A ρ (tC (.bl b)) R := de_bl.imp fun _ e => e ▸ r
theorem w_str {s : Str} (r : R (.str s)) : DE A ρ (tC (.str s)) R := de_str.imp fun _ e => e ▸ r
theorem w_non (r : R .non) : DE A ρ (tC .non) R := de_non.imp fun _ e => e ▸ r
theorem w_op {r : R2} (h : DE A ρ ta fun x => DE A ρ tb fun y => OpD A r x y R) : DE A ρ (tOp r ta tb) R := de_op h fun _ h => h
theorem w_un {r : V → Hp → VK → Prop} (h : DE A ρ ta fun x => UnD A r x R) : DE A ρ (tUn r ta) R := de_un h
theorem w_cons {tr : TA} {S : List D → Prop} (h : DE A ρ ta fun x => DA A ρ tr fun xs => S (x :: xs)) : DA A ρ (tCons ta tr) S := da_cons h fun _ h => h
theorem w_ifT {c : TT} (h : DT A ρ c (· = true)) (k : DE A ρ ta R) : DE A ρ (tIf c ta tb) R := de_if (h.imp fun b hb => ⟨(fun _ => k), (fun e => by subst hb; cases e)⟩)
theorem w_ifF {c : TT} (h : DT A ρ c (· = false)) (k : DE A ρ tb R) : DE A ρ (tIf c ta tb) R := de_if (h.imp fun b hb => ⟨(fun e => by subst hb; cases e), fun _ => k⟩)
/-- ints -/
theorem oi_I0 {g : Int → Int → V} {k : Int → Int → Int} {i j : Int} (hz : g = fun i j => .int (k i j)) (r : R (.int (k i j))) : OpD A (rI0 g) (.int i) (.int j) R := od_I0 (z := .int (k i j)) (fun G => by subst hz; exact .int _) r
theorem ob_I0 {g : Int → Int → V} {k : Int → Int → Bool} {i j : Int} (hz : g = fun i j => .bl (k i j)) (r : R (.bl (k i j))) : OpD A (rI0 g) (.int i) (.int j) R := od_I0 (z := .bl (k i j)) (fun G => by subst hz; exact .bl _) r
theorem oi_I {P : Int → Int → Prop} {g : Int → Int → V} {k : Int → Int → Int} {i j : Int} (hz : g = fun i j => .int (k i j)) (hc : P i j) (r : R (.int (k i j))) : OpD A (rI P g) (.int i) (.int j) R := od_I (z := .int (k i j)) hc (fun G => by subst hz; exact .int _) r
theorem ui_neg {i : Int} (r : R (.int (-i))) : UnD A (rU fun i => .int (-i)) (.int i) R := fun G H v Q hs hv q => by
  cases hv
  exact ⟨i, rfl, q _ _ G H r (.int _) hs.refl⟩
/-- lists and tuples -/
theorem ox_lst {ds : List D} {i : Int} {j : Nat} (hi : ixN ds.length i = some j) (hj : ds[j]? = some e) (hr : R e) : OpD A (rIx K) (.lst ds) (.int i) R := fun G H v w Q hs hv hw q => .inl (od_ixL hi hj hr G H v w Q hs hv hw q)
theorem ox_tup {ds : List D} {i : Int} {j : Nat} (hi : ixN ds.length i = some j) (hj : ds[j]? = some e) (hr : R e) : OpD A (rIx K) (.tup ds) (.int i) R := fun G H v w Q hs hv hw q => .inr (.inl (od_ixT hi hj hr G H v w Q hs hv hw q))
theorem ixN_of {n j : Nat} (h : j < n) : ixN n (j : Int) = some j := by
  unfold ixN
  rw [if_pos (by omega), if_pos (by omega)]
  simp
theorem oc_lst {ds es : List D} (hl : ds.length + es.length ≤ sizeLine) (r : R (.lst (ds ++ es))) : OpD A rCat (.lst ds) (.lst es) R := fun G H v w Q hs hv hw q => by
  cases hv with
  | lst h1 r1 =>
    cases hw with
    | lst h2 r2 =>
      refine ⟨_, _, _, _, rfl, rfl, hs.1 _ _ h1, hs.1 _ _ h2, by rw [r1.len, r2.len]; exact hl, fun p np => ?_⟩
      exact q _ _ _ _ r (.lst upd_same ((r1.append r2).mono (hs.new np).g)) (hs.new np)
theorem oc_str {s t : Str} (hl : s.length + t.length ≤ sizeLine) (r : R (.str (s ++ t))) : OpD A (fun x y H Q => ∃ i j, x = .str i ∧ y = .str j ∧ i.length + j.length ≤ sizeLine ∧ Q (.str (i ++ j)) H) (.str s) (.str t) R := fun G H v w Q hs hv hw q => by
  cases hv; cases hw
  exact ⟨s, t, rfl, rfl, hl, q _ _ G H r (.str _) hs.refl⟩
theorem ca_lenL {ds : List D} (r : R (.int ds.length)) : CaD A (fun xs H Q => ∃ p ys, xs = [.ref p] ∧ (SqL K H p ys ∨ SqT K H p ys) ∧ Q (.int ys.length) H) [.lst ds] R := fun G H vs Q hs hv q => by
  cases hv with
  | cons h hn =>
    cases hn
    cases h with
    | lst h1 r1 => exact ⟨_, _, rfl, .inl (SqL.of (hs.1 _ _ h1)), by rw [r1.len]; exact q _ _ G H r (.int _) hs.refl⟩
theorem ca_lenT {ds : List D} (r : R (.int ds.length)) : CaD A (fun xs H Q => ∃ p ys, xs = [.ref p] ∧ (SqL K H p ys ∨ SqT K H p ys) ∧ Q (.int ys.length) H) [.tup ds] R := fun G H vs Q hs hv q => by
  cases hv with
  | cons h hn =>
    cases hn
    cases h with
    | tup h1 r1 => exact ⟨_, _, rfl, .inr (SqT.of (hs.1 _ _ h1)), by rw [r1.len]; exact q _ _ G H r (.int _) hs.refl⟩
theorem ca_all {bs : List Bool} (r : R (.bl (bs.all id))) : CaD A (rAll K) [.lst (bs.map D.bl)] R := fun G H vs Q hs hv q => by
  cases hv with
  | cons h hn =>
    cases hn
    cases h with
    | lst h1 r1 =>
      rw [RepL.of_bls r1] at h1
      exact ⟨_, bs, rfl, SqL.of (hs.1 _ _ h1), q _ _ G H r (.bl _) hs.refl⟩
theorem ca_any {bs : List Bool} (r : R (.bl (bs.any id))) : CaD A (rAny K) [.lst (bs.map D.bl)] R := fun G H vs Q hs hv q => by
  cases hv with
  | cons h hn =>
    cases hn
    cases h with
    | lst h1 r1 =>
      rw [RepL.of_bls r1] at h1
      exact ⟨_, bs, rfl, SqL.of (hs.1 _ _ h1), q _ _ G H r (.bl _) hs.refl⟩
theorem ca_list {ds : List D} (hd : x = .lst ds ∨ x = .tup ds) (r : R (.lst ds)) : CaD A (fun xs H Q => ∃ p ys, xs = [.ref p] ∧ (SqL K H p ys ∨ SqT K H p ys) ∧ ∀ l, H l = none → Q (.ref l) (upd H l (.lst ys))) [x] R := fun G H vs Q hs hv q => by
  cases hv with
  | cons h hn =>
    cases hn
    rcases hd with rfl | rfl
    · cases h with
      | lst h1 r1 =>
        refine ⟨_, _, rfl, .inl (SqL.of (hs.1 _ _ h1)), fun p np => ?_⟩
        exact q _ _ _ _ r (.lst upd_same (r1.mono (hs.new np).g)) (hs.new np)
    · cases h with
      | tup h1 r1 =>
        refine ⟨_, _, rfl, .inr (SqT.of (hs.1 _ _ h1)), fun p np => ?_⟩
        exact q _ _ _ _ r (.lst upd_same (r1.mono (hs.new np).g)) (hs.new np)
theorem ca_tuple {ds : List D} (hd : x = .lst ds ∨ x = .tup ds) (r : R (.tup ds)) : CaD A (fun xs H Q => ∃ p ys, xs = [.ref p] ∧ ((SqL K H p ys ∧ ∀ l, H l = none → Q (.ref l) (upd H l (.tup ys))) ∨ (SqT K H p ys ∧ Q (.ref p) H))) [x] R := fun G H vs Q hs hv q => by
  cases hv with
  | cons h hn =>
    cases hn
    rcases hd with rfl | rfl
    · cases h with
      | lst h1 r1 =>
        refine ⟨_, _, rfl, .inl ⟨SqL.of (hs.1 _ _ h1), fun p np => ?_⟩⟩
        exact q _ _ _ _ r (.tup upd_same (r1.mono (hs.new np).g)) (hs.new np)
    · cases id h with
      | tup h1 r1 => exact ⟨_, _, rfl, .inr ⟨SqT.of (hs.1 _ _ h1), q _ _ G H r h hs.refl⟩⟩
theorem ca_int {i : Int} (r : R (.int i)) : CaD A (fun xs H Q => (∃ i, xs = [.int i] ∧ Q (.int i) H) ∨ ∃ k, xs = [.bl k] ∧ Q (.int (if k then 1 else 0)) H) [.int i] R := fun G H vs Q hs hv q => by
  cases hv with
  | cons h hn =>
    cases hn; cases h
    exact .inl ⟨i, rfl, q _ _ G H r (.int _) hs.refl⟩
theorem ca_abs {i : Int} (r : R (.int (if i < 0 then -i else i))) : CaD A (fun xs H Q => ∃ i, xs = [.int i] ∧ Q (.int (if i < 0 then -i else i)) H) [.int i] R := fun G H vs Q hs hv q => by
  cases hv with
  | cons h hn =>
    cases hn; cases h
    exact ⟨i, rfl, q _ _ G H r (.int _) hs.refl⟩
theorem ca_max2 {i j : Int} (r : R (.int (if j > i then j else i))) : CaD A (fun xs H Q => ∃ i j, xs = [.int i, .int j] ∧ Q (.int (if j > i then j else i)) H) [.int i, .int j] R := fun G H vs Q hs hv q => by
  cases hv with
  | cons h hn =>
    cases hn with
    | cons h' hn => cases hn; cases h; cases h'; exact ⟨i, j, rfl, q _ _ G H r (.int _) hs.refl⟩
theorem ca_min2 {i j : Int} (r : R (.int (if j < i then j else i))) : CaD A (fun xs H Q => ∃ i j, xs = [.int i, .int j] ∧ Q (.int (if j < i then j else i)) H) [.int i, .int j] R := fun G H vs Q hs hv q => by
  cases hv with
  | cons h hn =>
    cases hn with
    | cons h' hn => cases hn; cases h; cases h'; exact ⟨i, j, rfl, q _ _ G H r (.int _) hs.refl⟩
/-- slices -/
def DO (A : Amb) (ρ : Ro) (to : TO) (R : Option Int → Prop) : Prop := ∀ G0 H0 σ G H (Q : Option Int → Hp → Prop), Here A G0 H0 ρ σ G H → (∀ o G2 H2, R o → A.St G H G2 H2 → Q o H2) → to σ H Q
theorem do_none {S : Option Int → Prop} (h : S none) : DO A ρ tNoPart S := fun G0 H0 σ G H Q e q => q none G H h e.has.refl
theorem do_some {S : Option Int → Prop} (h : DE A ρ te fun d => ∃ i, d = .int i ∧ S (some i)) : DO A ρ (tPart te) S := fun G0 H0 σ G H Q e q => by
  refine h G0 H0 σ G H _ e fun d v G2 H2 hd rv s => ?_
  obtain ⟨i, rfl, hs⟩ := hd
  cases rv
  exact ⟨i, rfl, q _ G2 H2 hs s⟩
def cutD (ds : List D) (lo hi : Option Int) : List D := (ds.drop (HT.sIx ds.length 0 lo)).take (HT.sIx ds.length ds.length hi - HT.sIx ds.length 0 lo)
theorem RepL.cut {C : CT} {G : Hp} {ds : List D} {vs : List V} (r : RepL C G ds vs) (lo hi : Option Int) : RepL C G (cutD ds lo hi) (L2.cutV vs lo hi) := by
  unfold cutD L2.cutV
  rw [r.len]
  exact (r.drop _).take _
theorem w_slL {tlo thi : TO} (h : DE A ρ te fun x => ∃ ds, x = .lst ds ∧ DO A ρ tlo fun lo => DO A ρ thi fun hi => R (.lst (cutD ds lo hi))) : DE A ρ (tSl (rSlL K) te tlo thi) R := fun G0 H0 σ G H Q e q => by
  refine h G0 H0 σ G H _ e fun d v G2 H2 hd rv s => ?_
  obtain ⟨ds, rfl, h2⟩ := hd
  refine h2 G0 H0 σ G2 H2 _ (e.step s) fun lo G3 H3 h3 s3 => ?_
  refine h3 G0 H0 σ G3 H3 _ ((e.step s).step s3) fun hi G4 H4 h4 s4 => ?_
  have s34 := s3.trans s4
  cases rv.mono s34.g with
  | lst h1 r1 =>
    refine ⟨_, _, rfl, SqL.of (s4.h _ _ h1), fun p np => ?_⟩
    exact q _ _ _ _ h4 (.lst upd_same ((r1.cut lo hi).mono (s4.has.new np).g)) ((s.trans s34).trans (s4.has.new np))
theorem w_revL (h : DE A ρ te fun x => ∃ ds, x = .lst ds ∧ R (.lst ds.reverse)) : DE A ρ (tRevL K te) R := fun G0 H0 σ G H Q e q => by
  refine h G0 H0 σ G H _ e fun d v G2 H2 hd rv s => ?_
  obtain ⟨ds, rfl, h2⟩ := hd
  cases rv with
  | lst h1 r1 =>
    refine ⟨_, _, rfl, SqL.of (s.h _ _ h1), fun p np => ?_⟩
    exact q _ _ _ _ h2 (.lst upd_same (r1.rev.mono (s.has.new np).g)) (s.trans (s.has.new np))

/-! ### isinstance -/
def tyD (C : CT) : D → Value
  | .non => .type "NoneType"
  | .bl _ => .type "bool"
  | .int _ => .type "int"
  | .str _ => .type "str"
  | .lst _ => .type "list"
  | .tup _ => .type "tuple"
  | .ins c _ => .ref (C c).1
/-- what a class must have for isinstance -/
structure KC (K : PySem.W.Frag) (C : Addr) : Prop where
  cl : Cls K C
  ha : PySem.W.findIn K (.ref C) "__class__" = some (some (.builtin "object.__class__"))
  hn : PySem.W.specialIn K (.builtin "object.__class__") "__get__" = some (some (.builtin "getset_descriptor.__get__"))
  tk : PySem.W.takesIn K (.builtin "object.__class__") = some true
  mo : PySem.W.mroIn K C (.type "object") = some true
theorem tyX_of {C : CT} {G H : Hp} {d : D} {v : V} (kc : ∀ c ds, d = .ins c ds → KC K (C c).1) (x : Ex G H) (r : Rep C G d v) : TyX K H v (tyD C d) := by
  cases r with
  | non => exact .base .non
  | bl b => exact .base (.bl b)
  | int i => exact .base (.int i)
  | str s => exact .base (.str s)
  | lst h r => exact .base (.lst (x _ _ h))
  | tup h r => exact .base (.tup (x _ _ h))
  | ins h r l =>
    have k := kc _ _ rfl
    exact .base (.ins (x _ _ h) k.cl k.ha k.hn k.tk k.mo)
theorem w_isi {c : V} {u : Value} (hc : ClsV c u) (h : DE A ρ te fun d => (∀ k ds, d = .ins k ds → KC K (A.C k).1) ∧ ∃ b, PySem.W.kitOne K (tyD A.C d) u = some b ∧ R (.bl b)) : DE A ρ (tCB (rIsi K) (tCons te (tCons (tC c) tNil))) R := fun G0 H0 σ G H Q e q => by
  refine h G0 H0 σ G H _ e fun d v G2 H2 hd rv s => ?_
  obtain ⟨kc, b, hk, hr⟩ := hd
  exact ⟨v, c, _, u, b, rfl, hc, tyX_of kc s.h rv, hk, q _ _ G2 H2 hr (.bl b) s⟩
theorem w_isiT {c1 c2 : V} {u1 u2 : Value} (h1 : ClsV c1 u1) (h2 : ClsV c2 u2) (h : DE A ρ te fun d => (∀ k ds, d = .ins k ds → KC K (A.C k).1) ∧ ∃ b, PySem.W.kitAny K (tyD A.C d) [u1, u2] = some b ∧ R (.bl b)) :
    DE A ρ (tCB (rIsiT K) (tCons te (tCons (tTup (tCons (tC c1) (tCons (tC c2) tNil))) tNil))) R := fun G0 H0 σ G H Q e q => by
  refine h G0 H0 σ G H _ e fun d v G2 H2 hd rv s => ?_
  obtain ⟨kc, b, hk, hr⟩ := hd
  refine ⟨by show 2 ≤ sizeLine; decide, fun p np => ?_⟩
  have s3 := s.has.grow (Ex.new (o := .tup [c1, c2]) np)
  exact ⟨v, p, _, _, _, b, rfl, upd_same, .cons h1 (.cons h2 .nil), tyX_of kc s3.h rv, hk, q _ _ G2 _ hr (.bl b) (s.trans s3)⟩
end
end GD
/-! ==, != and repr of data with own instances: rules for the layer, their readings. -/
namespace GD
open PySem L2 GX PyProof.Rows
open Evl (Ex)
section
variable {C : CT} {oe : Nat → List D → List D → Bool} {X : Cx} {k j : Nat}
theorem rcx_all {d e : D} (c : Cm (OwnE X C oe k) d e) (h1 : flD d = none) : RcX X C (k + dp2 d) d e (eqd oe d e) := by
  cases c with
  | flat f1 f2 => rw [h1] at f1; cases f1
  | @lst ds es h =>
    have := rcx_lst (X := X) (C := C) (k := k + dp2L ds) (ds := ds) (es := es) (f := at2 oe ds es) (fun hn i d e hd he => by
      have e1 : at2 oe ds es i = eqd oe d e := by unfold at2; rw [hd, he]
      rw [e1]
      exact eqx_allL (h hn) i d e hd he)
    have e2 : eqd oe (.lst ds) (.lst es) = (decide (ds.length = es.length) && (List.range ds.length).all (at2 oe ds es)) := by
      rw [eqd, eqdL_range]
      by_cases hn : ds.length = es.length
      · rw [hn]; simp
      · simp [hn]
    rw [dp2, e2]
    exact this
  | @tup ds es h =>
    have := rcx_tup (X := X) (C := C) (k := k + dp2L ds) (ds := ds) (es := es) (f := at2 oe ds es) (fun i d e hd he => by
      have e1 : at2 oe ds es i = eqd oe d e := by unfold at2; rw [hd, he]
      rw [e1]
      exact eqx_allL h i d e hd he)
    rw [dp2, eqd, eqdL_range]
    exact this
  | @ins c ds es h =>
    rw [eqd]
    exact fun A pins s σ G H p q E sb => rcx_ins h A pins s σ G H p q E (sb.mono (Nat.le_add_right _ _))
theorem ref_of {G : Hp} {d : D} {v : V} (h : flD d = none) (r : Rep C G d v) : ∃ p, v = .ref p := by
  cases r <;> first | exact ⟨_, rfl⟩ | cases h
/-- x == y, both references -/
def rEqX (X : Cx) (C : CT) (oe : Nat → List D → List D → Bool) (k j : Nat) : R2 := fun x y H Q => ∃ d e G, Ex G H ∧ Rep C G d x ∧ Rep C G e y ∧ Cm (OwnE X C oe k) d e ∧ flD d = none ∧ flD e = none ∧ k + dp2 d ≤ j ∧ ∀ H', Ex H H' → Q (.bl (eqd oe d e)) H'
theorem op_eqX (hr : Room j X.A) : OpR X (compareOp .Eq) (rEqX X C oe k j) := by
  intro pins s σ H x y u v Q I rx ry h
  obtain ⟨d, e, G, xg, r1, r2, c, f1, f2, hj, q⟩ := h
  obtain ⟨p, rfl⟩ := ref_of f1 r1
  obtain ⟨p', rfl⟩ := ref_of f2 r2
  cases (show u = Value.ref p from rx)
  cases (show v = Value.ref p' from ry)
  show wpAny (model X.prog X.w) X.A (richCompare .Eq (.ref p) (.ref p')) (EP X pins σ Q) X.xe s
  refine wpAny_mono (rcx_all c f1 X.A pins s σ G H p p' X.xe ⟨hr.mono hj, rfl⟩ I xg r1 r2) (fun r s' z => ?_) fun _ _ z => z
  obtain ⟨rfl, H', I', y⟩ := z
  exact ⟨.bl _, H', I', rfl, q H' y⟩
/-- != of instances of one own class -/
def rNeI (X : Cx) (C : CT) (oe : Nat → List D → List D → Bool) (k j : Nat) : R2 := fun x y H Q => ∃ c ds es G, Ex G H ∧ Rep C G (.ins c ds) x ∧ Rep C G (.ins c es) y ∧ OwnE X C oe k c ds es ∧
  PySem.W.findIn X.K (.ref (C c).1) "__ne__" = some (some (.builtin "object.__ne__")) ∧ PySem.W.mroIn X.K (C c).1 (.type "object") = some true ∧ k + 1 ≤ j ∧ ∀ H', Ex H H' → Q (.bl (!oe c ds es)) H'
theorem op_neI (hr : Room j X.A) : OpR X (compareOp .NotEq) (rNeI X C oe k j) := by
  intro pins s σ H x y u v Q I rx ry h
  obtain ⟨c, ds, es, G, xg, r1, r2, o, hn, hm, hj, q⟩ := h
  obtain ⟨fa, fd, pre, post, F, hb, hs, hf, hp, hq⟩ := o.ex
  cases id r1 with
  | ins g1 l1 n1 =>
    cases id r2 with
    | ins g2 l2 n2 =>
      rename_i a dx vs b dy ws
      cases (show u = Value.ref a from rx)
      cases (show v = Value.ref b from ry)
      obtain ⟨mA, OA, _⟩ := ins_get I.hok (xg _ _ g1)
      obtain ⟨oa, JA, _⟩ := OA.look
      obtain ⟨mB, OB, _⟩ := ins_get I.hok (xg _ _ g2)
      obtain ⟨ob, JB, _⟩ := OB.look
      have hr2 : Room (k + 1) X.A := hr.mono hj
      show wpAny (model X.prog X.w) X.A (richCompare .NotEq (.ref a) (.ref b)) (EP X pins σ Q) X.xe s
      refine ne_own hr2.units0 hr2.in1.units0 I.kIn JA JB.type (by simp [PySem.W.notFirst]) hn hm hs hf ?_
      refine wpAny_mono (run_at (σ := σ) (H := H) (Q := fun v H' => v = .bl (oe c ds es) ∧ Ex H H') (E := E0) (vs := [.ref a, .ref b]) ⟨hr2.in1, rfl⟩ F hb I (va (va .nil)) ⟨G, [.ins c ds, .ins c es], xg, .cons (.of r1) (.cons (.of r2) .nil), hp, fun d v G2 H2 hd rv st => ?_⟩) (fun z s' w => ?_) fun _ _ z => z
      · rw [hq d hd] at rv
        cases rv
        exact ⟨rfl, fun b o q => st.k b o q (by simp)⟩
      · obtain ⟨v, H', J, rw', rfl, y⟩ := w
        cases (show z = Value.bool _ from rw')
        exact ⟨_, rfl, .bl _, H', J, rfl, q H' y⟩
/-- x != [], x a list -/
def rNeN (C : CT) : R2 := fun x y H Q => ∃ ds G, Ex G H ∧ Rep C G (.lst ds) x ∧ Rep C G (.lst []) y ∧ Q (.bl (!decide (ds.length = 0))) H
theorem op_neN (hr : Room j X.A) : OpR X (compareOp .NotEq) (rNeN C) := by
  intro pins s σ H x y u v Q I rx ry h
  obtain ⟨ds, G, xg, r1, r2, q⟩ := h
  cases r1 with
  | lst g1 l1 =>
    cases r2 with
    | lst g2 l2 =>
      cases l2
      rename_i a vs b
      cases (show u = Value.ref a from rx)
      cases (show v = Value.ref b from ry)
      obtain ⟨_, its, n, rv, oa⟩ := I.hok a _ (xg _ _ g1)
      obtain ⟨_, its2, n2, rv2, ob⟩ := I.hok b _ (xg _ _ g2)
      cases rv2
      have la : its.length = ds.length := by rw [← rv.length, l1.len]
      show wpAny (model X.prog X.w) X.A (richCompare .NotEq (.ref a) (.ref b)) (EP X pins σ Q) X.xe s
      by_cases h0 : ds.length = 0
      · rw [decide_eq_true h0] at q
        refine SeqAt.RcNeAt.lists (e := fun _ => true) ⟨_, oa, rfl, _, rfl⟩ ⟨_, ob, rfl, _, rfl⟩ (by simp; exact List.eq_nil_of_length_eq_zero (by omega)) hr.units0 (fun i h1 h2 => by simp at h2) X.prog X.w X.xe _ ?_
        have e0 : (List.range its.toArray.size).all (fun _ => true) = true := by simp
        rw [e0]
        exact ⟨.bl _, H, I, rfl, q⟩
      · rw [decide_eq_false h0] at q
        exact SeqAt.RcNeAt.lists_lengths ⟨_, oa, rfl, _, rfl⟩ ⟨_, ob, rfl, _, rfl⟩ (by have z0 : its ≠ [] := fun z => h0 (by rw [← la, z]; rfl); simpa using z0) hr.units0 X.prog X.w X.xe _ ⟨.bl _, H, I, rfl, q⟩
/-! ### own == with any value on the right -/
theorem looks_ty {G H : Hp} {pins : List (Addr × Obj)} {σ : L2.St} {s : Shared} {d : D} {v : V} {u : Value} {M : Model} (I : Inv X pins σ H s) (x : Ex G H) (r : Rep C G d v) (ru : RelV v u) : PySem.W.Looks M s.heap (typeOf u) (tyD C d) := by
  have ldc : ∀ {a : Addr} {o : Obj}, s.heap.get? a = some o → PySem.W.Looks M s.heap (typeOf (.ref a)) o.cls := fun {a o} h A Q E s' k q => wpAny_typeOf_ref (k _ _ h) q
  cases r with
  | non => cases ru; exact PySem.W.Looks.of_pure rfl
  | bl b => cases ru; exact PySem.W.Looks.of_pure rfl
  | int i => obtain ⟨t, rfl⟩ := ru; exact PySem.W.Looks.of_pure rfl
  | str i => obtain ⟨t, rfl⟩ := ru; exact PySem.W.Looks.of_pure rfl
  | lst g l =>
    cases ru
    obtain ⟨_, its, n, rv, oa⟩ := I.hok _ _ (x _ _ g)
    exact ldc oa
  | tup g l =>
    cases ru
    obtain ⟨_, its, rv, o, oa, oc, _⟩ := I.hok _ _ (x _ _ g)
    have := ldc oa
    rw [oc] at this
    exact this
  | ins g l n =>
    cases ru
    obtain ⟨mA, OA, _⟩ := ins_get I.hok (x _ _ g)
    obtain ⟨oa, JA, _⟩ := OA.look
    exact JA.type
/-- the own __eq__ of the c-th class, any data on the right -/
structure OwnV (X : Cx) (C : CT) (k c : Nat) (ds : List D) (e : D) (b : Bool) : Prop where
  ex : ∃ (f : Addr) (fd : FuncData) (pre : List D → Prop) (post : List D → D → Prop), FnOk X.prog X.w X.K X.mg X.base CX0 k f fd ["self", "other"] (spD C pre post) ∧ Binds X.K fd ["self", "other"] [] ∧
    PySem.W.findIn X.K (.ref (C c).1) "__eq__" = some (some (.ref f)) ∧ PySem.W.isFn X.K (.ref f) = true ∧ pre [.ins c ds, e] ∧ ∀ d, post [.ins c ds, e] d → d = .bl b
  nf : PySem.W.notFirst X.K (C c).1 (tyD C e) = true
def rEqV (X : Cx) (C : CT) (k j : Nat) : R2 := fun x y H Q => ∃ c ds e b G, Ex G H ∧ Rep C G (.ins c ds) x ∧ Rep C G e y ∧ OwnV X C k c ds e b ∧ k ≤ j ∧ ∀ H', Ex H H' → Q (.bl b) H'
theorem op_eqV (hr : Room j X.A) : OpR X (compareOp .Eq) (rEqV X C k j) := by
  intro pins s σ H x y u v Q I rx ry h
  obtain ⟨c, ds, e, b, G, xg, r1, r2, o, hj, q⟩ := h
  obtain ⟨fa, fd, pre, post, F, hb, hs, hf, hp, hq⟩ := o.ex
  cases id r1 with
  | ins g1 l1 n1 =>
    rename_i a dx vs
    cases (show u = Value.ref a from rx)
    obtain ⟨mA, OA, _⟩ := ins_get I.hok (xg _ _ g1)
    obtain ⟨oa, JA, _⟩ := OA.look
    obtain ⟨m, hF⟩ := I.fr
    show wpAny (model X.prog X.w) X.A (richCompare .Eq (.ref a) v) (EP X pins σ Q) X.xe s
    refine PySem.W.cmp_K (op := .Eq) hr.units0 hF I.ok.mod.kin JA (looks_ty I xg r2 ry) o.nf hs hf ?_
    refine wpAny_mono (run_at (σ := σ) (H := H) (Q := fun v H' => v = .bl b ∧ Ex H H') (E := E0) ⟨hr.mono hj, rfl⟩ F hb I (va (.cons ry .nil)) ⟨G, [.ins c ds, e], xg, .cons (.of r1) (.cons (.of r2) .nil), hp, fun d v G2 H2 hd rv st => ?_⟩) (fun z s' w => ?_) fun _ _ z => z
    · rw [hq d hd] at rv
      cases rv
      exact ⟨rfl, fun b o q => st.k b o q (by simp)⟩
    · obtain ⟨v, H', J, rw', rfl, y⟩ := w
      cases (show z = Value.bool _ from rw')
      exact ⟨.bl _, H', J, rfl, q H' y⟩
/-! ### repr -/
theorem cr_reprX (gd : X.A.guards = some []) (hr : Room j X.A) : CallR X (.builtin "repr") (rRpX X C k j) := by
  intro pins s σ H xs us Q I r h
  obtain ⟨v, d, t, G, rfl, x, rd, hs, hj, q⟩ := h
  obtain ⟨u, rfl, ru⟩ := vals1 r
  have gd1 : X.A.in1.guards = some [] := gd
  have sb : L2.Sub X (k + dep d + 2) X.A.in1 := L2.Sub.in1 ⟨hr.mono (by omega), rfl⟩
  have hu : X.A.units + 1 < cLine := by have := hr.un; omega
  have fin : ∀ {r : Value} {s' : Shared}, TxB X pins σ H t r s' → ∃ x w, r = .str x w ∧ EP X pins σ Q (.str x w) s' := fun {r s'} z => by
    obtain ⟨y, w, e1, rfl, H', J, e⟩ := z
    exact ⟨y, w, e1, .str y, H', J, ⟨w, rfl⟩, q H' e⟩
  cases hs with
  | non => cases rd; cases ru; exact P.repr_of_none ⟨.str _, H, I.tok _, ⟨_, rfl⟩, q H (Ex.refl H)⟩
  | bl b => cases rd; cases ru; exact P.repr_of_bool ⟨.str _, H, I.tok _, ⟨_, rfl⟩, q H (Ex.refl H)⟩
  | int h => cases rd; obtain ⟨w, rfl⟩ := ru; exact P.repr_of_int h ⟨.str _, H, I.tok _, ⟨_, rfl⟩, q H (Ex.refl H)⟩
  | str h => cases rd; obtain ⟨w, rfl⟩ := ru; exact P.repr_of_str ⟨.str _, H, I.tok _, ⟨_, rfl⟩, q H (Ex.refl H)⟩ h
  | lst h hz =>
    cases rd with
    | lst hG hr' =>
      cases ru
      have l := rp_allL h
      obtain ⟨_, its, n, rv, oa⟩ := I.hok _ _ (x _ _ hG)
      exact call_repr_slot hu ⟨_, oa, rfl⟩ PySem.F.slot_list_repr.toG (wpAny_mono (lst_call (E := X.xe) gd1 (sb.mono (by rw [dep]; omega)) I x hG hr' l.1 l.2 hz) (fun r s' z => by obtain ⟨y, w, e1, z2⟩ := fin z; subst e1; exact ⟨y, w, rfl, z2⟩) fun _ _ z => z)
  | tup h hz =>
    cases rd with
    | tup hG hr' =>
      cases ru
      have l := rp_allL h
      obtain ⟨_, its, rv, o, oa, oc, n, od⟩ := I.hok _ _ (x _ _ hG)
      exact call_repr_slot hu ⟨_, oa, oc⟩ PySem.F.slot_tuple_repr (wpAny_mono (tup_call (E := X.xe) gd1 (sb.mono (by rw [dep]; omega)) I x hG hr' l.1 l.2 hz) (fun r s' z => by obtain ⟨y, w, e1, z2⟩ := fin z; subst e1; exact ⟨y, w, rfl, z2⟩) fun _ _ z => z)
  | ins h =>
    obtain ⟨f, fd, pre, post, F, hb, hs, hf, hp, hq⟩ := h.ex
    cases id rd with
    | ins hG hr' hl0 =>
      cases ru
      obtain ⟨mA, OA, _⟩ := ins_get I.hok (x _ _ hG)
      obtain ⟨oa, JA, _⟩ := OA.look
      obtain ⟨m, hF⟩ := I.fr
      refine PySem.W.repr_K sb.room.units0 hF I.ok.mod.kin JA hs hf (wpAny_mono (own_run (E := X.xe) (sb.mono (by omega)) F hb hp hq I x rd) (fun r s' z => ?_) fun _ _ z => z)
      obtain ⟨y, w, e1, z2⟩ := fin z
      subst e1
      exact z2
/-- {x!r} -/
def tFmtX (X : Cx) (C : CT) (k j : Nat) (te : TE) : TE := fun σ H Q => te σ H fun v H1 => ∃ (d : D) (t : Str) (G : Hp), Ex G H1 ∧ Rep C G d v ∧ Shw (OwnR X C k) d t ∧ t.length ≤ sizeLine ∧ k + dep d + 2 ≤ j ∧ ∀ H', Ex H1 H' → Q (.str t) H'
theorem pe_fmtX {e : Expr} {te : TE} {pos : Pos} (gd : X.A.guards = some []) (hr : Room j X.A) (he : PE X e te) : PE X (.FormattedValue e 114 none pos) (tFmtX X C k j te) := by
  refine ⟨fun pins s σ H Q I h => ?_⟩
  refine wpAny_FormattedValue_repr (thn (he.run pins s σ H _ I h) fun u s1 hv => ?_)
  obtain ⟨v, H1, I1, ru, d, t, G, x, rd, hs, hz, hj, q⟩ := hv
  refine wpAny_mono (obj_all gd ⟨hr.mono hj, rfl⟩ I1 x rd ru hs) (fun r s' z => ?_) fun _ _ z => z
  obtain ⟨y, w, rfl, rfl, H', J, e⟩ := z
  exact wpAny_formatField_str ⟨.str y, H', J, ⟨w, rfl⟩, q H' e⟩ ⟨.str y, H', J.tok _, ⟨_, rfl⟩, q H' e⟩ hz
end
section
variable {A : Amb} {ρ : Ro} {te ta tb : TE} {tl : TA} {R : D → Prop} {x y z d e : D} {X : Cx} {oe : Nat → List D → List D → Bool} {k j : Nat}
theorem gro {G H G' H' : Hp} {Q : VK} {z : D} {v : V} (hs : Has A.P A.W G H) (hv : Rep A.C G z v) (r : R z) (q : ∀ z u G2 H2, R z → Rep A.C G2 z u → A.St G H G2 H2 → Q u H2) (e : Ex H H') : Q v H' := q z v G H' r hv (hs.grow e)
theorem ce_X (c : Cm (OwnE X A.C oe k) x y) (f1 : flD x = none) (f2 : flD y = none) (hj : k + dp2 x ≤ j) (r : R (.bl (eqd oe x y))) : OpD A (rEqX X A.C oe k j) x y R := fun G H v w Q hs hv hw q =>
  ⟨x, y, G, hs.1, hv, hw, c, f1, f2, hj, fun H' e => q _ _ G H' r (.bl _) (hs.grow e)⟩
theorem cn_I {c : Nat} {ds es : List D} (o : OwnE X A.C oe k c ds es) (hn : PySem.W.findIn X.K (.ref (A.C c).1) "__ne__" = some (some (.builtin "object.__ne__"))) (hm : PySem.W.mroIn X.K (A.C c).1 (.type "object") = some true) (hj : k + 1 ≤ j) (r : R (.bl (!oe c ds es))) :
    OpD A (rNeI X A.C oe k j) (.ins c ds) (.ins c es) R := fun G H v w Q hs hv hw q => ⟨c, ds, es, G, hs.1, hv, hw, o, hn, hm, hj, fun H' e => q _ _ G H' r (.bl _) (hs.grow e)⟩
theorem cn_N {ds : List D} (r : R (.bl (!decide (ds.length = 0)))) : OpD A (rNeN A.C) (.lst ds) (.lst []) R := fun G H v w Q hs hv hw q => ⟨ds, G, hs.1, hv, hw, q _ _ G H r (.bl _) hs.refl⟩
theorem ce_V {c : Nat} {ds : List D} {b : Bool} (o : OwnV X A.C k c ds y b) (hj : k ≤ j) (r : R (.bl b)) : OpD A (rEqV X A.C k j) (.ins c ds) y R := fun G H v w Q hs hv hw q => ⟨c, ds, y, b, G, hs.1, hv, hw, o, hj, fun H' e => q _ _ G H' r (.bl _) (hs.grow e)⟩
theorem ca_repr {t : Str} (h : Shw (OwnR X A.C k) x t) (hj : k + dep x + 3 ≤ j) (r : R (.str t)) : CaD A (rRpX X A.C k j) [x] R := fun G H vs Q hs hv q => by
  cases hv with
  | cons h1 hn =>
    cases hn
    exact ⟨_, x, t, G, rfl, hs.1, h1, h, hj, fun H' e => q _ _ G H' r (.str _) (hs.grow e)⟩
theorem w_fmtX (h : DE A ρ te fun x => ∃ t, Shw (OwnR X A.C k) x t ∧ t.length ≤ sizeLine ∧ k + dep x + 2 ≤ j ∧ R (.str t)) : DE A ρ (tFmtX X A.C k j te) R := fun G0 H0 σ G H Q e q => by
  refine h G0 H0 σ G H _ e fun d v G2 H2 hd rv s => ?_
  obtain ⟨t, h1, h2, h3, h4⟩ := hd
  exact ⟨d, t, G2, s.h, rv, h1, h2, h3, fun H' x => q _ _ G2 H' h4 (.str _) (s.trans (s.has.grow x))⟩
end
end GD
/-! len(o), o[i], o + tuple, repr(o) of an own instance; constants of a class: rules and their readings. -/
namespace GX
open PySem PySem.Spec PyProof.Rows L2
section
variable {prog : Program} {w : World} {A : Around} {E : Value → Shared → Prop} {s : Shared} {K : PySem.W.Frag}
  {x C L f : Addr} {h₀ : Heap} {m : Str → Option Value} {ox : Obj} {od : Option Obj} {T : String} {b : Value}
/-- own left, a kind without number slots right -/
theorem bin_noslot {op : Operator} {Q : Value → Shared → Prop} (F : Fr h₀ L s.heap m) (X₀ : K.In h₀)
    (I : PySem.W.InstAt s.heap x ox C od) (hb : PySem.W.Looks (model prog w) s.heap (typeOf b) (.type T))
    (hc : PySem.W.selfFirst K C = true)
    (hs : PySem.W.findIn K (.ref C) (PySem.dunder op.info.2) = some (some (.ref f)))
    (hf : PySem.W.isFn K (.ref f) = true) (hi : fillsNumberSlot (.type T) op.info.2 = pure false)
    (h : wpAny (model prog w) A (call (.ref f) [.ref x, b]) (PySem.W.CmpBack Q) E s) :
    wpAny (model prog w) A (binaryOp op (.ref x) b) Q E s := by
  have X := X₀.keeps F.keep
  obtain ⟨cd, rest, hcd, hm⟩ := PySem.W.ksp_first hc
  rcases ho : op.info with ⟨sym, nm'⟩
  rw [ho] at hs hi
  dsimp only at hs hi
  have one := PySem.W.ksp_try X I hs hf h
  obtain ⟨hh, gg, d, tt, os⟩ := s
  have l1 : PySem.W.Looks (model prog w) hh (typeOf (.ref x)) (.ref C) := I.type
  have l2 : PySem.W.Looks (model prog w) hh (typeOf b) (.type T) := hb
  have l3 : PySem.W.Looks (model prog w) hh (fillsNumberSlot (.ref C) nm') true := PySem.W.fills_K X hcd hm hs
  have l4 : PySem.W.Looks (model prog w) hh (fillsNumberSlot (.type T) nm') false := PySem.W.Looks.of_pure hi
  have ne : (Value.ref C == Value.type T) = false := Bool.eq_false_iff.mpr fun q => by cases beq_iff_eq.mp q
  simp only [binaryOp, ho]
  refine wpAny_holding (wpAny_bind ?_)
  unfold binaryOp1
  refine wpAny_bind (l1.at (wpAny_bind (l2.at (wpAny_bind (l3.at ?_)))))
  simp only [ne, Bool.false_eq_true, if_false]
  ksp_lk
  refine wpAny_mono one (fun r s' hr' => ?_) fun _ _ e => e
  obtain ⟨v, rfl, hq⟩ := hr'
  ksp_lk
  exact hq
end
section
variable {X : Cx} {k j : Nat} {f C : Addr} {fd : FuncData} {ps : List Str} {sp : Sp} {E : XK}
/-- len(o) -/
def rLenO (C : Addr) (sp : Sp) (E : XK) : List V → Hp → VK → Prop := fun xs H Q => ∃ a dx fs, xs = [.ref a] ∧ H a = some (.ins C dx fs) ∧
  sp [.ref a] H (fun v H' => ∃ n : Int, v = .int n ∧ 0 ≤ n ∧ n < 2 ^ 63 ∧ Q (.int n) H') E
theorem cr_lenO (F : FnOk X.prog X.w X.K X.mg X.base CX0 k f fd ps sp) (hr : Room (k + 1) X.A) (hb : Binds X.K fd ps [])
    (hs : PySem.W.findIn X.K (.ref C) "__len__" = some (some (.ref f))) (hf : PySem.W.isFn X.K (.ref f) = true) :
    CallR X (.builtin "len") (rLenO C sp E) := by
  intro pins s σ H xs us Q I r h
  obtain ⟨a, dx, fs, rfl, ha, hq⟩ := h
  obtain ⟨u, rfl, ru⟩ := vals1 r
  cases (show u = Value.ref a from ru)
  obtain ⟨mA, OA, _⟩ := ins_get I.hok ha
  obtain ⟨oa, JA, _⟩ := OA.look
  obtain ⟨m, hF⟩ := I.fr
  apply PySem.W.len_K hF I.ok.mod.kin JA hs hf
  refine wpAny_mono (run_at ⟨hr.in1, rfl⟩ F hb I (va .nil) hq) (fun u s' z => ?_) fun _ _ z => z
  obtain ⟨v, H', J, rv, n, rfl, n0, n1, q⟩ := z
  obtain ⟨t, rfl⟩ := (show ∃ t, u = Value.int n t from rv)
  exact ⟨⟨n0, n1⟩, .int n, H', J.tok _, ⟨_, rfl⟩, q⟩
/-- o[i] -/
def rIxO (C : Addr) (sp : Sp) (E : XK) : R2 := fun x y H Q => ∃ a i dx fs, x = .ref a ∧ y = .int i ∧ H a = some (.ins C dx fs) ∧ sp [.ref a, .int i] H Q E
theorem pe_ixO {a b : Expr} {ta tb : TE} {pos : Pos} (F : FnOk X.prog X.w X.K X.mg X.base CX0 k f fd ps sp) (hr : Room (k + 1) X.A) (hb : Binds X.K fd ps [])
    (hs : PySem.W.findIn X.K (.ref C) "__getitem__" = some (some (.ref f))) (hf : PySem.W.fnIn X.K f = true) (hfn : PySem.W.isFn X.K (.ref f) = true) (ha : PE X a ta) (hi : PE X b tb)
    (hsl : ∀ o i, subscripted b true o i = runValue (.builtin "lifetime.subscript" ⟨[o, i], []⟩)) : PE X (.Subscript a b pos) (tOp (rIxO C sp E) ta tb) := by
  refine ⟨fun pins s σ H Q I h => ?_⟩
  refine Subscript_ (binT ha hi I h fun v u s2 x y H2 I2 rx ry q => ?_)
  obtain ⟨p, i, dx, fs, rfl, rfl, hp, hq⟩ := q
  cases (show v = Value.ref p from rx)
  obtain ⟨mA, OA, _⟩ := ins_get I2.hok hp
  obtain ⟨oa, JA, _⟩ := OA.look
  obtain ⟨m, hF⟩ := I2.fr
  refine PySem.W.sub_K hF I2.ok.mod.kin JA hs hf hfn ?_ (hsl _ _)
  exact run_at ⟨hr.in1, rfl⟩ F hb I2 (va (.cons ry .nil)) hq
/-- o + t, t a tuple -/
def rOwnT (C : Addr) (sp : Sp) (E : XK) : R2 := fun x y H Q => ∃ a t dx fs ys, x = .ref a ∧ y = .ref t ∧ H a = some (.ins C dx fs) ∧ H t = some (.tup ys) ∧ sp [.ref a, .ref t] H Q E
theorem op_ownT {op : Operator} (F : FnOk X.prog X.w X.K X.mg X.base CX0 k f fd ps sp) (hr : Room k X.A) (hb : Binds X.K fd ps []) (hc : PySem.W.selfFirst X.K C = true)
    (hs : PySem.W.findIn X.K (.ref C) (PySem.dunder op.info.2) = some (some (.ref f))) (hf : PySem.W.isFn X.K (.ref f) = true) (hi : fillsNumberSlot (.type "tuple") op.info.2 = pure false) : OpR X (binaryOp op) (rOwnT C sp E) := by
  intro pins s σ H x y u v Q I rx ry h
  obtain ⟨a, t, dx, fs, ys, rfl, rfl, ha, ht, hq⟩ := h
  cases (show u = Value.ref a from rx)
  cases (show v = Value.ref t from ry)
  obtain ⟨mA, OA, _⟩ := ins_get I.hok ha
  obtain ⟨oa, JA, _⟩ := OA.look
  obtain ⟨m, hF⟩ := I.fr
  obtain ⟨_, its, rv, o, ot, oc, _⟩ := I.hok _ _ ht
  have lk : PySem.W.Looks (model X.prog X.w) s.heap (typeOf (.ref t)) (.type "tuple") := fun A Q E s' k q => wpAny_typeOf_ref (k _ _ ot) (by rw [oc]; exact q)
  refine bin_noslot hF I.ok.mod.kin JA lk hc hs hf hi ?_
  exact wpAny_mono (run_at ⟨hr, rfl⟩ F hb I (va (va .nil)) hq) (fun _ _ z => back_of z) fun _ _ z => z
/-- what a def gives back where no repr is under way -/
theorem run_atG {pins : List (Addr × Obj)} {σ : L2.St} {H : Hp} {s : Shared} {Q : VK} {us : List Value} {vs : List V} {A : Around} (gd : A.guards = some []) (sb : L2.Sub X k A) (F : FnG X.prog X.w X.K X.mg X.base CX0 k f fd ps sp)
    (hb : Binds X.K fd ps []) (I : Inv X pins σ H s) (r : Vals vs us) (h : sp vs H Q E) {Ex : Value → Shared → Prop} :
    wpAny (model X.prog X.w) A (call (.ref f) us) (EP X pins σ Q) Ex s := by
  have e := I.env0
  have e0 : Env0 X.prog X.w X.K X.mg X.base A X.stack s H :=
    ⟨by rw [sb.fr]; exact e.frames, e.mod, e.bs, e.bsz, e.funs, e.frf, e.hok, e.bare⟩
  have hl := F.len _ _ _ _ h
  have hl2 : us.length = ps.length := by rw [← r.length]; exact hl
  have hbb := hb s us I.kIn (by simpa using hl2)
  apply wpAny_call
  apply codeAny_mono (F.run A X.stack s H ⟨us, []⟩ us vs Q E gd sb.room e0 (by simpa using hbb) r h)
  intro c s' hq
  match c, hq with
  | .error e, hq => exact hq.elim
  | .ok (.ret u), hq => exact I.after hq
  | .ok .next, hq => exact hq.elim
  | .ok .brk, hq => exact hq.elim
  | .ok .cont, hq => exact hq.elim
theorem cr_reprG (gd : X.A.guards = some []) (F : FnG X.prog X.w X.K X.mg X.base CX0 k f fd ps sp) (hr : Room (k + 1) X.A) (hb : Binds X.K fd ps [])
    (hs : PySem.W.findIn X.K (.ref C) "__repr__" = some (some (.ref f))) (hf : PySem.W.isFn X.K (.ref f) = true) :
    CallR X (.builtin "repr") (rStrOwn C sp E) := by
  intro pins s σ H xs us Q I r h
  obtain ⟨a, dx, fs, rfl, ha, hq⟩ := h
  obtain ⟨u, rfl, ru⟩ := vals1 r
  cases (show u = Value.ref a from ru)
  obtain ⟨mA, OA, _⟩ := ins_get I.hok ha
  obtain ⟨oa, JA, _⟩ := OA.look
  obtain ⟨m, hF⟩ := I.fr
  apply PySem.W.repr_K hr.in1.units0 hF I.ok.mod.kin JA hs hf
  exact wpAny_mono (run_atG (show X.A.in1.guards = some [] from gd) ⟨hr.in1, rfl⟩ F hb I (va .nil) hq) (fun _ _ z => strback_of z) fun _ _ z => z
end
end GX
/-! zip of lists and tuples mixed, enumerate of a tuple: walks of the layer, over the library's iterators of any kind. -/
namespace GX
open PySem PySem.Spec PyProof.Rows L2
/-- a list (false) or a tuple (true) at a -/
def SqA (K : PySem.W.Frag) (t : Bool) (H : Hp) (a : Addr) (xs : List V) : Prop := if t = true then SqT K H a xs else SqL K H a xs
def Itr1 (t : Bool) (h : Heap) (it a : Addr) (i : Nat) : Prop := if t = true then h.IsTupleIter it a i else h.IsListIter it a i
def Seq1 (t : Bool) (h : Heap) (a : Addr) (its : Array Value) : Prop := if t = true then h.IsTuple a its else h.IsList a its
def itO (t : Bool) (a : Addr) : Obj := if t = true then { cls := .type "tuple_iterator", data := .fields #[.ref a, .int 0 0] } else { cls := .type "list_iterator", data := .fields #[.ref a, .int 0 0] }
section
variable {P : Program} {w : World} {K : PySem.W.Frag} {A : Around}
theorem drawsA (hh : A.handled = none) (t : Bool) {it a : Addr} (ne : a ≠ it) (its : Array Value) :
    Draws P w A it [it, a] its.size (fun i v => its[i]? = some v) (fun i h => Itr1 t h it a i ∧ Seq1 t h a its) := by
  cases t with
  | true => exact Draws.tuple hh it a ne its
  | false => exact Draws.list hh it a ne its
theorem beginsA (t : Bool) (a : Addr) (its : Array Value) : Begins (.ref a) (itO t a) fun h => Seq1 t h a its := by
  cases t with
  | true => exact begins_tuple a its
  | false => exact begins_list a its
theorem Itr1.keep {t : Bool} {h h' : Heap} {it a : Addr} {i : Nat} (x : Itr1 t h it a i) (k : ∀ o, h.get? it = some o → h'.get? it = some o) : Itr1 t h' it a i := by
  cases t with
  | true => exact Heap.IsTupleIter.at x k
  | false => exact Heap.IsListIter.at x k
theorem Itr1.at' {t : Bool} {h : Heap} {it a : Addr} {i : Nat} (x : Itr1 t h it a i) : ∃ o, h.get? it = some o ∧ ∀ v, o.data ≠ .cell v := by
  cases t with
  | true => obtain ⟨o, e, _, d⟩ := (show h.IsTupleIter it a i from x); exact ⟨o, e, fun v q => by rw [d] at q; cases q⟩
  | false => obtain ⟨o, e, _, d⟩ := (show h.IsListIter it a i from x); exact ⟨o, e, fun v q => by rw [d] at q; cases q⟩
theorem Itr1.first {t : Bool} {h : Heap} {it a : Addr} (e : h.get? it = some (itO t a)) : Itr1 t h it a 0 := by
  cases t with
  | true => exact ⟨_, e, rfl, rfl⟩
  | false => exact ⟨_, e, rfl, rfl⟩
theorem Seq1.lt {t : Bool} {h : Heap} {a : Addr} {its : Array Value} (x : Seq1 t h a its) : a < h.objs.size := by
  cases t with
  | true => obtain ⟨o, e, _⟩ := (show h.IsTuple a its from x); exact Heap.lt_size e
  | false => obtain ⟨o, e, _⟩ := (show h.IsList a its from x); exact Heap.lt_size e
theorem Inv.seqA {X : Cx} {pins : List (Addr × Obj)} {σ : L2.St} {H : Hp} {s : Shared} {t : Bool} {a : Addr} {xs : List V} (I : Inv X pins σ H s) (h : SqA X.K t H a xs) : ∃ its : List Value, Vals xs its ∧ Seq1 t s.heap a its.toArray := by
  cases t with
  | true => obtain ⟨its, r, p, _⟩ := I.tuple h; exact ⟨its, r, p⟩
  | false => obtain ⟨its, r, p, _⟩ := I.list h; exact ⟨its, r, p.isList⟩
theorem Inv.seqA_inj {X : Cx} {pins : List (Addr × Obj)} {σ : L2.St} {H : Hp} {s : Shared} {t : Bool} {a : Addr} {xs ys : List V} (I : Inv X pins σ H s) (h : SqA X.K t H a xs) (h' : SqA X.K t H a ys) : xs = ys := by
  cases t with
  | true => exact I.tuple_inj h h'
  | false => exact I.list_inj h h'
/-! ### enumerate -/
def IteA (K : PySem.W.Frag) (t : Bool) (a : Addr) : It :=
  ⟨fun i H => ∃ xs x, SqA K t H a xs ∧ xs[i]? = some x,
   fun i H v H' => ∃ T x, v = .ref T ∧ H T = none ∧ H' = upd H T (.tup [.int (i : Nat), x]) ∧ ∀ xs, SqA K t H a xs → xs[i]? = some x,
   fun i H => ∃ xs : List V, SqA K t H a xs ∧ i = xs.length⟩
theorem turn_enumA {elts : List Expr} {kk : Nat} {tpos : Pos} (t : Bool) {a e it : Addr} (ne : e ≠ it) (na : a ≠ it) (nae : a ≠ e) :
    Turn P w K (.Tuple elts kk tpos) (IteA K t a) [e, it] e (fun i h => (∃ old, IsEnum h e it ((i : Nat) : Int) old) ∧ Itr1 t h it a i) where
  mem := by simp
  obj := fun i h st b hb => by
    obtain ⟨⟨old, he⟩, hi⟩ := st
    rcases (show b = e ∨ b = it by simpa using hb) with z | z
    · subst z; exact ⟨_, he, fun v q => nomatch q⟩
    · subst z; exact hi.at'
  keep := fun i h h' st k => ⟨let ⟨old, he⟩ := st.1; ⟨old, k e (by simp) _ he⟩, st.2.keep fun o q => k it (by simp) o q⟩
  item := by
    intro X hP hw hK hc i pins s σ H E I hf st hg
    subst hP hw hK
    obtain ⟨⟨old, he⟩, hi⟩ := st
    obtain ⟨xs, x, hq, hx⟩ := hg
    obtain ⟨its, rv, sq⟩ := Inv.seqA I hq
    obtain ⟨u, hu, ru⟩ := rv.get hx
    have hlt : i < its.toArray.size := by
      have := (List.getElem?_eq_some_iff.mp hu).1
      simpa using this
    have hel : e < s.heap.objs.size := Heap.lt_size he
    have hil : it < s.heap.objs.size := by obtain ⟨_, q, _⟩ := hi.at'; exact Heap.lt_size q
    refine wpAny_pyNext_enum_itemD (drawsA (A := X.A.in1) (show X.A.in1.handled = none from I.ok.hd hc) t na its.toArray) he ⟨hi, sq⟩ hlt ne (by simp; exact ⟨ne, Ne.symm nae⟩) fun y h' tk hy ho st' hT hsz hk => ?_
    have ey : y = u := by
      have h2 : its.toArray[i]? = some u := by simpa using hu
      rw [h2] at hy; exact (Option.some.inj hy).symm
    subst ey
    refine ⟨_, rfl, wpAny_letOwnedTupleGo_enum (s := { s with heap := h', toks := tk + 1 }) ho fun h'' he' sb => ?_⟩
    have hT2 : h''.get? s.heap.objs.size = some { cls := .type "tuple", data := .seq #[.int i tk, y] } := (sb.2 _ (Nat.ne_of_gt hel)).trans hT
    have new : ObjOk X.prog X.w (upd H s.heap.objs.size (.tup [.int (i : Nat), x])) h'' s.heap.objs.size (.tup [.int (i : Nat), x]) :=
      ⟨by show 2 ≤ sizeLine; decide, [.int i tk, y], .cons ⟨_, rfl⟩ (.cons ru .nil), ⟨_, hT2, rfl, _, rfl⟩⟩
    have J : Inv X pins σ (upd H s.heap.objs.size (.tup [.int (i : Nat), x])) { s with heap := h'', toks := tk + 1 } :=
      I.turnedNew (ch := [e, it]) (fun b ob hb q => (sb.2 b (fun z => hb (by simp [z]))).trans (hk b ob (fun z => hb (by simp [z])) (fun z => hb (by simp [z])) q)) hf (Nat.le_refl _) new
    refine ⟨.ref s.heap.objs.size, _, J, rfl, ⟨_, x, rfl, I.hok.fresh (Nat.le_refl _), rfl, fun ys hy => by rw [Inv.seqA_inj I hy hq]; exact hx⟩, ⟨⟨y, ?_⟩, st'.1.keep fun o q => (sb.2 it (Ne.symm ne)).trans q⟩, fun b hb => ?_⟩
    · rw [show ((i + 1 : Nat) : Int) = (i : Int) + 1 by omega]
      exact he'
    · have hb' : b < s.heap.objs.size := by
        rcases (show b = e ∨ b = it by simpa using hb) with z | z
        · rw [z]; exact hel
        · rw [z]; exact hil
      rw [upd_ne (Nat.ne_of_lt hb')]
      exact (hf b hb).1
  done := by
    intro X hP hw hK hc i pins s σ H E I hf st hg
    subst hP hw hK
    obtain ⟨⟨old, he⟩, hi⟩ := st
    obtain ⟨xs, hq, hx⟩ := hg
    obtain ⟨its, rv, sq⟩ := Inv.seqA I hq
    obtain ⟨f0, f1, f2, f3, f4, f5⟩ := hf it (by simp)
    have en : i = its.toArray.size := by
      have := rv.length
      simp; omega
    subst en
    exact wpAny_pyNext_enum_endD (drawsA (A := X.A.in1) (show X.A.in1.handled = none from I.ok.hd hc) t na its.toArray) he ⟨hi, sq⟩ fun h' eb => ⟨rfl, I.turned (t' := s.toks) (fun b o hb q => eb b o hb q) f0 f1 f3 f4 f5⟩
  self := fun A i s Q E st h => let ⟨⟨_, he⟩, _⟩ := st; wpAny_pyIter_enum he h
theorem new_enum {v : Value} {o : Obj} {H : Heap → Prop} (B : Begins v o H) :
    Meets (Builtin.«enumerate.__new__» ⟨[.type "enumerate", v], []⟩) (fun _ R s => H s.heap ∧
      R (.ok (.ret (.ref (s.heap.push o).objs.size))) { s with heap := (s.heap.push o).push { cls := .type "enumerate", data := .fields #[.none, .bool false, .ref s.heap.objs.size, rawInt 0, .none, .none] } }) := by
  refine .of_wp fun prog w A R s h => ?_
  obtain ⟨hp, g, d, tk, os⟩ := s
  obtain ⟨h1, h⟩ := h
  have se := sub_enumerate
  have go : ∀ {A' : Around} {E : Value → Shared → Prop} {Q : Value → Shared → Prop}, Q (.ref hp.objs.size) ⟨hp.push o, g, d, tk, os⟩ →
      wpAny (model prog w) A' (pyIter v) Q E ⟨hp, g, d, tk, os⟩ := fun q => B.iter prog w _ _ ⟨hp, g, d, tk, os⟩ _ h1 q
  wp_walk using go
  refine wpAny_stack_any fun st => wpAny_pure ?_
  split
  · rename_i c _ _ _ _ _
    cases (c == Value.type "enumerate") <;> (wp_walk using go; exact ⟨_, rfl, h⟩)
  · wp_walk using go
    exact ⟨_, rfl, h⟩
/-- enumerate(v): two new cells -/
theorem call_enumA {s : Shared} {E : Value → Shared → Prop} {v : Value} {o : Obj} {H : Heap → Prop} {Q : Value → Shared → Prop} (B : Begins v o H) (h1 : H s.heap)
    (h : ∀ h', IsEnum h' (s.heap.objs.size + 1) s.heap.objs.size 0 .none → h'.get? s.heap.objs.size = some o → (∀ b o, s.heap.get? b = some o → h'.get? b = some o) →
      Q (.ref (s.heap.objs.size + 1)) { s with heap := h' }) : wpAny (model P w) A (call (.type "enumerate") [v]) Q E s := by
  refine callType_new PySem.F.called_enumerate (by decide) (PySem.F.typeCall_enumerate_1 _) (PySem.F.newCall_enumerate_1 _) (fun obj => PySem.F.args_object_init_2 obj _) PySem.F.entry_enumerate_new (new_enum B) ⟨h1, ?_⟩
  have z : (s.heap.push o).objs.size = s.heap.objs.size + 1 := Heap.size_push ..
  show _ ∧ _
  have e2 := Heap.get?_push_size (s.heap.push o) (o := { cls := .type "enumerate", data := .fields #[.none, .bool false, .ref s.heap.objs.size, rawInt 0, .none, .none] }) rfl
  rw [z] at e2 ⊢
  exact ⟨⟨_, e2, rfl⟩, h _ e2 (Heap.get?_push_of_some _ (Heap.get?_push_size _ B.free)) fun b o x => Heap.get?_push_of_some _ (Heap.get?_push_of_some _ x)⟩
def iEnumA (K : PySem.W.Frag) (ta : TA) : TI := fun σ H R => ta σ H fun vs H1 => ∃ t a xs, vs = [.ref a] ∧ SqA K t H1 a xs ∧ R (IteA K t a) H1
theorem pi_enumA {X : Cx} {e : Expr} {ta : TA} {p pos tpos : Pos} {elts : List Expr} {kk : Nat} (hg : Gl X "enumerate") (hm : X.mg "enumerate" = none) (ha : PA X [e] ta) (hs : starEach [e] X.env = [(false, eval e X.env)] := by rfl) :
    PI X (.Tuple elts kk tpos) (.Call (.Name "enumerate" p) [e] [] pos) (iEnumA X.K ta) := by
  refine ⟨fun pins s σ H R I h => ?_⟩
  refine Call_ (ld_blt I hg hm boot_enumerate (PyProof.Rows.callWith_type1 (thn (ha.run pos pins s σ H _ I h) fun us s1 q0 => ?_) hs rfl))
  obtain ⟨vs, H1, I1, r1, t, a, xs, rfl, hq, q⟩ := q0
  obtain ⟨u, rfl, ru⟩ := vals1 r1
  cases (show u = Value.ref a from ru)
  obtain ⟨its, rv, sq⟩ := Inv.seqA I1 hq
  have al := sq.lt
  refine call_enumA (beginsA t a its.toArray) sq fun h' he ho hk => wpAny_pyIter_enum he ?_
  have I2 : Inv X pins σ H1 { s1 with heap := h' } := I1.kept (t' := s1.toks) hk
  refine ⟨s1.heap.objs.size + 1, [s1.heap.objs.size + 1, s1.heap.objs.size], _, _, H1, rfl, I2, turn_enumA t (Nat.succ_ne_self _) (Nat.ne_of_lt al) (Nat.ne_of_lt (Nat.lt_succ_of_lt al)), ⟨⟨.none, he⟩, Itr1.first ho⟩, fun b hb => ?_, q⟩
  have hle : s1.heap.objs.size ≤ b := by
    rcases (show b = s1.heap.objs.size + 1 ∨ b = s1.heap.objs.size by simpa using hb) with z | z
    · rw [z]; exact Nat.le_succ _
    · rw [z]; exact Nat.le_refl _
  exact I1.fpOk hle (I1.hok.fresh hle)
/-! ### zip -/
def ItzA (K : PySem.W.Frag) (t t2 : Bool) (a b : Addr) : It :=
  ⟨fun i H => ∃ xs ys x y, SqA K t H a xs ∧ SqA K t2 H b ys ∧ xs[i]? = some x ∧ ys[i]? = some y,
   fun i H v H' => ∃ T x y, v = .ref T ∧ H T = none ∧ H' = upd H T (.tup [x, y]) ∧ (∀ xs, SqA K t H a xs → xs[i]? = some x) ∧ ∀ ys, SqA K t2 H b ys → ys[i]? = some y,
   fun i H => ∃ xs ys : List V, SqA K t H a xs ∧ SqA K t2 H b ys ∧ i ≤ xs.length ∧ i ≤ ys.length ∧ (i = xs.length ∨ i = ys.length)⟩
theorem turn_zipA {elts : List Expr} {kk : Nat} {tpos : Pos} (t t2 : Bool) {a b z TI TO i1 i2 : Addr} (D : ZipSep2 z TI TO i1 i2 [i1, a] [i2, b]) (n1 : a ≠ i1) (n2 : b ≠ i2) :
    Turn P w K (.Tuple elts kk tpos) (ItzA K t t2 a b) [z, TI, TO, i1, i2] z (fun i h => IsZip h z TI TO .none ∧ IsTupOf2 h TI (.ref i1) (.ref i2) ∧ (∃ x y, IsTupOf2 h TO x y) ∧ Itr1 t h i1 a i ∧ Itr1 t2 h i2 b i) where
  mem := by simp
  obj := fun i h st c hc => by
    obtain ⟨hz, hTI, ⟨x, y, hTO⟩, h1, h2⟩ := st
    rcases (show c = z ∨ c = TI ∨ c = TO ∨ c = i1 ∨ c = i2 by simpa using hc) with q | q | q | q | q
    · subst q; exact ⟨_, hz, fun v q => nomatch q⟩
    · subst q; exact ⟨_, hTI, fun v q => nomatch q⟩
    · subst q; exact ⟨_, hTO, fun v q => nomatch q⟩
    · subst q; exact h1.at'
    · subst q; exact h2.at'
  keep := fun i h h' st k => by
    obtain ⟨hz, hTI, ⟨x, y, hTO⟩, h1, h2⟩ := st
    exact ⟨k _ (by simp) _ hz, k _ (by simp) _ hTI, ⟨x, y, k _ (by simp) _ hTO⟩, h1.keep fun o q => k _ (by simp) o q, h2.keep fun o q => k _ (by simp) o q⟩
  item := by
    intro X hP hw hK hc i pins s σ H E I hf st hg
    subst hP hw hK
    obtain ⟨hz, hTI, ⟨x0, y0, hTO⟩, h1, h2⟩ := st
    obtain ⟨xs, ys, x, y, hqx, hqy, hx, hy⟩ := hg
    obtain ⟨its, rv, sq⟩ := Inv.seqA I hqx
    obtain ⟨its2, rv2, sq2⟩ := Inv.seqA I hqy
    obtain ⟨u, hu, ru⟩ := rv.get hx
    obtain ⟨u2, hu2, ru2⟩ := rv2.get hy
    have l1 : i < its.toArray.size := by have := (List.getElem?_eq_some_iff.mp hu).1; simpa using this
    have l2 : i < its2.toArray.size := by have := (List.getElem?_eq_some_iff.mp hu2).1; simpa using this
    have hzl : z < s.heap.objs.size := Heap.lt_size hz
    have hd : X.A.in1.handled = none := I.ok.hd hc
    refine wpAny_pyNext_zipD2_item D (drawsA hd t n1 its.toArray) (drawsA hd t2 n2 its2.toArray) hz hTI hTO ⟨h1, sq⟩ ⟨h2, sq2⟩ l1 l2 fun y1 y2 h' tk e1 e2 z' TO' s1' s2' hT hsz hk => ?_
    have ey1 : y1 = u := by
      have q : its.toArray[i]? = some u := by simpa using hu
      rw [q] at e1; exact (Option.some.inj e1).symm
    have ey2 : y2 = u2 := by
      have q : its2.toArray[i]? = some u2 := by simpa using hu2
      rw [q] at e2; exact (Option.some.inj e2).symm
    subst ey1; subst ey2
    refine ⟨_, rfl, wpAny_letOwnedTupleGo_zip (s := { s with heap := h', toks := tk }) z' fun h'' z'' sb => ?_⟩
    have hT2 : h''.get? s.heap.objs.size = some { cls := .type "tuple", data := .seq #[y1, y2] } := (sb.2 _ (Nat.ne_of_gt hzl)).trans hT
    have new : ObjOk X.prog X.w (upd H s.heap.objs.size (.tup [x, y])) h'' s.heap.objs.size (.tup [x, y]) :=
      ⟨by show 2 ≤ sizeLine; decide, [y1, y2], .cons ru (.cons ru2 .nil), ⟨_, hT2, rfl, _, rfl⟩⟩
    have J : Inv X pins σ (upd H s.heap.objs.size (.tup [x, y])) { s with heap := h'', toks := tk } :=
      I.turnedNew (ch := [z, TI, TO, i1, i2]) (fun c o hb q => (sb.2 c (fun q' => hb (by simp [q']))).trans (hk c o (fun q' => hb (by simp [q'])) (fun q' => hb (by simp [q'])) (fun q' => hb (by simp [q'])) (fun q' => hb (by simp [q'])) q)) hf (Nat.le_refl _) new
    refine ⟨.ref s.heap.objs.size, _, J, rfl, ⟨_, x, y, rfl, I.hok.fresh (Nat.le_refl _), rfl, fun l hl => by rw [Inv.seqA_inj I hl hqx]; exact hx, fun l hl => by rw [Inv.seqA_inj I hl hqy]; exact hy⟩, ⟨z'', ?_, ⟨y1, y2, ?_⟩, ?_, ?_⟩, fun c hcm => ?_⟩
    · exact (sb.2 _ D.TIz).trans (hk _ _ D.TIz D.TITO D.TIi1 D.TIi2 hTI)
    · exact (sb.2 _ D.TOz).trans TO'
    · exact s1'.1.keep fun o q => (sb.2 _ (Ne.symm D.zi1)).trans q
    · exact s2'.1.keep fun o q => (sb.2 _ (Ne.symm D.zi2)).trans q
    · have hlt : c < s.heap.objs.size := by
        rcases (show c = z ∨ c = TI ∨ c = TO ∨ c = i1 ∨ c = i2 by simpa using hcm) with q | q | q | q | q
        · rw [q]; exact hzl
        · rw [q]; exact Heap.lt_size hTI
        · rw [q]; exact Heap.lt_size hTO
        · rw [q]; obtain ⟨_, e1, _⟩ := h1.at'; exact Heap.lt_size e1
        · rw [q]; obtain ⟨_, e1, _⟩ := h2.at'; exact Heap.lt_size e1
      rw [upd_ne (Nat.ne_of_lt hlt)]
      exact (hf c hcm).1
  done := by
    intro X hP hw hK hc i pins s σ H E I hf st hg
    subst hP hw hK
    obtain ⟨hz, hTI, ⟨x0, y0, hTO⟩, h1, h2⟩ := st
    obtain ⟨xs, ys, hqx, hqy, le1, le2, hend⟩ := hg
    obtain ⟨its, rv, sq⟩ := Inv.seqA I hqx
    obtain ⟨its2, rv2, sq2⟩ := Inv.seqA I hqy
    have m1 : its.toArray.size = xs.length := by have := rv.length; simp; omega
    have m2 : its2.toArray.size = ys.length := by have := rv2.length; simp; omega
    have hd : X.A.in1.handled = none := I.ok.hd hc
    exact wpAny_pyNext_zipD2_end D (drawsA hd t n1 its.toArray) (drawsA hd t2 n2 its2.toArray) hz hTI hTO ⟨h1, sq⟩ ⟨h2, sq2⟩ (by omega) (by omega) (by omega) fun h' tk hk => ⟨rfl, I.turnedL (t' := tk) (ch := [z, TI, TO, i1, i2]) (fun c o hb q =>
      hk c o (fun q' => hb (by simp [q'])) (fun q' => hb (by simp [q'])) (fun q' => hb (by simp [q'])) (fun q' => hb (by simp [q'])) q) hf⟩
  self := fun A i s Q E st h => wpAny_pyIter_zip st.1 h
def iZipB (K : PySem.W.Frag) (ta : TA) : TI := fun σ H R => ta σ H fun vs H1 => ∃ t t2 a b xs ys, vs = [.ref a, .ref b] ∧ SqA K t H1 a xs ∧ SqA K t2 H1 b ys ∧ R (ItzA K t t2 a b) H1
theorem pi_zipB {X : Cx} {e e2 : Expr} {ta : TA} {p pos tpos : Pos} {elts : List Expr} {kk : Nat} (hg : Gl X "zip") (hm : X.mg "zip" = none) (ha : PA X [e, e2] ta)
    (hs : starEach [e, e2] X.env = (false, eval e X.env) :: starEach [e2] X.env := by rfl) (hpl : (backTo pos (starEach [e2] X.env)).any (·.1) = false := by rfl) :
    PI X (.Tuple elts kk tpos) (.Call (.Name "zip" p) [e, e2] [] pos) (iZipB X.K ta) := by
  refine ⟨fun pins s σ H R I h => ?_⟩
  refine Call_ (ld_blt I hg hm PyProof.Rows.boot_zip (PyProof.Rows.callWith_type1 (thn (ha.run pos pins s σ H _ I h) fun us s1 q0 => ?_) hs hpl))
  obtain ⟨vs, H1, I1, r1, t, t2, a, b, xs, ys, rfl, hqx, hqy, q⟩ := q0
  cases r1 with
  | cons r rr =>
    cases rr with
    | cons r' rr =>
      cases rr; cases r; cases r'
      obtain ⟨its, rv, sq⟩ := Inv.seqA I1 hqx
      obtain ⟨its2, rv2, sq2⟩ := Inv.seqA I1 hqy
      have al := sq.lt
      have bl := sq2.lt
      refine zip_begins2 (beginsA t a its.toArray) (beginsA t2 b its2.toArray) sq sq2 fun h' hz hTI hTO h1 h2 hsz hk => wpAny_pyIter_zip hz ?_
      have I2 : Inv X pins σ H1 { s1 with heap := h' } := I1.kept (t' := s1.toks) hk
      refine ⟨s1.heap.objs.size + 4, [s1.heap.objs.size + 4, s1.heap.objs.size + 2, s1.heap.objs.size + 3, s1.heap.objs.size, s1.heap.objs.size + 1], _, _, H1, rfl, I2,
        turn_zipA t t2 (zip_sep2 (by simpa using al) (by simpa using bl)) (Nat.ne_of_lt al) (Nat.ne_of_lt (Nat.lt_succ_of_lt bl)), ⟨hz, hTI, ⟨_, _, hTO⟩, Itr1.first h1, Itr1.first h2⟩, fun c hcm => ?_, q⟩
      have hle : s1.heap.objs.size ≤ c := by
        rcases (show c = s1.heap.objs.size + 4 ∨ c = s1.heap.objs.size + 2 ∨ c = s1.heap.objs.size + 3 ∨ c = s1.heap.objs.size ∨ c = s1.heap.objs.size + 1 by simpa using hcm) with z | z | z | z | z
        all_goals rw [z]
        all_goals first | exact Nat.le_add_right _ _ | exact Nat.le_refl _
      exact I1.fpOk hle (I1.hok.fresh hle)
end
end GX
/-! Readings of own len, index, operators, repr; class constants; walks of lists and tuples mixed. -/
namespace GD
open PySem L2 GX PyProof.Rows
open Evl (Ex)
section
variable {A : Amb} {l : Bool} {ρ : Ro} {te ta tb : TE} {tl tg : TA} {R : D → Prop} {K : PySem.W.Frag} {x y : D} {E : XK}
theorem pst {G H G2 H2 : Hp} (h : Has A.P A.W G H) (s : Stp none (fun _ => True) G H G2 H2) : A.St G H G2 H2 :=
  ⟨s.g, s.h, fun x o q _ => s.k x o q (by simp), s.f, fun x e => let ⟨n, o, ho, w, nt⟩ := h.2 x e; ⟨s.f x o n ho nt, o, s.k x o ho (by simp), w, nt⟩⟩
/-- len(o) -/
theorem w_lenO {c : Nat} {pre : List D → Prop} {post : List D → D → Prop} (h : DE A ρ te fun x => ∃ es, x = .ins c es ∧ pre [x] ∧ ∀ d, post [x] d → ∃ n : Int, d = .int n ∧ 0 ≤ n ∧ n < 2 ^ 63 ∧ R d) :
    DE A ρ (tCB (rLenO (A.C c).1 (spD A.C pre post) E) (tCons te tNil)) R := fun G0 H0 σ G H Q e q => by
  refine h G0 H0 σ G H _ e fun x v G2 H2 hx hv s2 => ?_
  obtain ⟨es, rfl, hp, hq⟩ := hx
  cases id hv with
  | ins h1 r _ =>
    refine ⟨_, _, _, rfl, s2.h _ _ h1, G2, [.ins c es], s2.h, .cons (.of hv) .nil, hp, fun d v G3 H3 hd rv st => ?_⟩
    obtain ⟨n, rfl, n0, n1, hr⟩ := hq d hd
    cases rv
    exact ⟨n, rfl, n0, n1, q _ _ G3 H3 hr (.int n) (s2.trans (pst s2.has st))⟩
/-- o[i] that hands back what is new -/
theorem n_ixO {c : Nat} {pre : List D → Prop} {post : List D → D → Prop} (h : DE A ρ ta fun x => ∃ es, x = .ins c es ∧ DE A ρ tb fun y => ∃ i, y = .int i ∧ pre [x, y] ∧ ∀ d, post [x, y] d → R d) :
    DN A ρ (tOp (rIxO (A.C c).1 (spF A.C pre post) E) ta tb) R := fun G0 H0 σ G H Q e q => by
  refine h G0 H0 σ G H _ e fun x v G2 H2 hx hv s2 => ?_
  obtain ⟨es, rfl, hb⟩ := hx
  refine hb G0 H0 σ G2 H2 _ (e.step s2) fun y w G3 H3 hy hw s3 => ?_
  obtain ⟨i, rfl, hp, hq⟩ := hy
  cases id (hv.mono s3.g) with
  | ins h1 r _ =>
    cases id hw
    have s23 := s2.trans s3
    refine ⟨_, _, _, _, rfl, rfl, s3.h _ _ h1, G3, [.ins c es, .int i], s3.h, .cons (.of (hv.mono s3.g)) (.cons (.of hw) .nil), hp, fun d v G4 H4 hd rv st => ?_⟩
    exact q _ _ G4 H4 (hq d hd) (rv.weak (s23.back fun b z => let ⟨o, ho, _⟩ := s23.has.some'.2 b z; ⟨o, ho⟩)) (s23.trans (pst s3.has st))
/-- own + tuple -/
theorem ol_ownT {c : Nat} {es ys : List D} {pre : List D → Prop} {post : List D → D → Prop} (hp : pre [.ins c es, .tup ys]) (hq : ∀ d, post [.ins c es, .tup ys] d → R d) : OpL A (rOwnT (A.C c).1 (spD A.C pre post) E) (.ins c es) (.tup ys) R := fun G H v w Q hs hv hw q => by
  have hv' := hv.leaf rfl
  obtain ⟨t, vs, rfl, ht, rl⟩ := hw.tupI mns_ex hs.1
  cases id hv' with
  | ins h1 r _ =>
    refine ⟨_, _, _, _, _, rfl, rfl, hs.1 _ _ h1, ht, G, [.ins c es, .tup ys], hs.1, .cons (.of hv') (.cons (hw.mono mns_none (Ex.refl _)) .nil), hp, fun d v G3 H3 hd rv st => ?_⟩
    exact q _ _ G3 H3 (hq d hd) (.of rv) (pst hs st)
/-- own op own -/
theorem od_own2 {c : Nat} {es fs : List D} {pre : List D → Prop} {post : List D → D → Prop} (hp : pre [.ins c es, .ins c fs]) (hq : ∀ d, post [.ins c es, .ins c fs] d → R d) : OpD A (rOwn2 (A.C c).1 (spD A.C pre post) E) (.ins c es) (.ins c fs) R := fun G H v w Q hs hv hw q => by
  cases id hv with
  | ins h1 r _ =>
    cases id hw with
    | ins h2 r2 _ =>
      refine ⟨_, _, _, _, _, _, rfl, rfl, hs.1 _ _ h1, hs.1 _ _ h2, G, [.ins c es, .ins c fs], hs.1, .cons (.of hv) (.cons (.of hw) .nil), hp, fun d v G3 H3 hd rv st => ?_⟩
      exact q _ _ G3 H3 (hq d hd) rv (pst hs st)
/-- own op int -/
theorem od_ownN {c : Nat} {es : List D} {i : Int} {pre : List D → Prop} {post : List D → D → Prop} (hp : pre [.ins c es, .int i]) (hq : ∀ d, post [.ins c es, .int i] d → R d) : OpD A (rOwnN (A.C c).1 (spD A.C pre post) E) (.ins c es) (.int i) R := fun G H v w Q hs hv hw q => by
  cases id hv with
  | ins h1 r _ =>
    cases id hw
    refine ⟨_, _, _, _, rfl, rfl, hs.1 _ _ h1, G, [.ins c es, .int i], hs.1, .cons (.of hv) (.cons (.of hw) .nil), hp, fun d v G3 H3 hd rv st => ?_⟩
    exact q _ _ G3 H3 (hq d hd) rv (pst hs st)
/-- repr(o) by a def that shows containers -/
theorem w_reprG {c : Nat} {pre : List D → Prop} {post : List D → D → Prop} (h : DE A ρ te fun x => ∃ es, x = .ins c es ∧ pre [x] ∧ ∀ d, post [x] d → ∃ t, d = .str t ∧ R d) :
    DE A ρ (tCB (rStrOwn (A.C c).1 (spD A.C pre post) E) (tCons te tNil)) R := fun G0 H0 σ G H Q e q => by
  refine h G0 H0 σ G H _ e fun x v G2 H2 hx hv s2 => ?_
  obtain ⟨es, rfl, hp, hq⟩ := hx
  cases id hv with
  | ins h1 r _ =>
    refine ⟨_, _, _, rfl, s2.h _ _ h1, G2, [.ins c es], s2.h, .cons (.of hv) .nil, hp, fun d v G3 H3 hd rv st => ?_⟩
    obtain ⟨t, rfl, hr⟩ := hq d hd
    cases rv
    exact ⟨t, rfl, q _ _ G3 H3 hr (.str t) (s2.trans (pst s2.has st))⟩
/-- [e] * n, e no container -/
theorem df_rep {S : List D → Prop} (h : DE A ρ ta fun x => ∃ ds, x = .lst ds ∧ DE A ρ tb fun y => ∃ n : Nat, y = .int n ∧ n < 100000 ∧ ds.length * n ≤ 100000 ∧ S (List.replicate n ds).flatten) : DF A ρ (tOp rRep ta tb) S := fun G0 H0 σ G H Q e q => by
  refine h G0 H0 σ G H _ e fun x v G2 H2 hx hv s2 => ?_
  obtain ⟨ds, rfl, hb⟩ := hx
  refine hb G0 H0 σ G2 H2 _ (e.step s2) fun y w G3 H3 hy hw s3 => ?_
  obtain ⟨n, rfl, n1, hl, hr⟩ := hy
  cases hw
  cases hv.mono s3.g with
  | lst h1 r =>
    have s23 := s2.trans s3
    refine ⟨_, n, _, rfl, rfl, s3.h _ _ h1, by omega, by omega, ?_, fun p np => ?_⟩
    · rw [r.len, Int.toNat_natCast]
      exact Nat.le_trans hl (show 100000 ≤ sizeLine by decide)
    · rw [Int.toNat_natCast]
      have rr : ∀ k : Nat, RepL A.C G3 (List.replicate k ds).flatten (List.replicate k _).flatten := fun k => by
        induction k with
        | zero => exact .nil
        | succ k ih => rw [List.replicate_succ, List.replicate_succ, List.flatten_cons, List.flatten_cons]; exact r.append ih
      exact q _ p _ G3 _ hr (s23.back (fun b z => let ⟨o, ho, _⟩ := s23.has.some'.2 b z; ⟨o, ho⟩) p np) (Evl.fresh_back s3.h np) upd_same (rr n) (s23.trans (s23.has.grow (Ex.new np)))
/-! ### walks -/
theorem sqA_of {t : Bool} {H : Hp} {a : Addr} {vs : List V} (h : H a = some (if t = true then .tup vs else .lst vs)) : SqA K t H a vs := by
  cases t with
  | true => exact SqT.of h
  | false => exact SqL.of h
theorem itd_enum {H0 G : Hp} {t : Bool} {a : Addr} {ds : List D} (w : Wk A l H0 G ds a t) : ItD A l H0 (IteA K t a) G (enumD ds) := fun i G' H' m e1 e2 => by
  obtain ⟨vs, r, st⟩ := w
  have hs : SqA K t H' a vs := sqA_of (st G' H' m e1 e2)
  have ln := Wk.len r
  rw [enumD_len]
  refine ⟨fun hi => ?_, fun hi => ⟨vs, hs, by omega⟩, fun d hd hh x H2 hy => ?_⟩
  · obtain ⟨v, hv, _⟩ := Wk.get r (Ex.refl _) (List.getElem?_eq_getElem hi)
    exact ⟨vs, v, hs, hv⟩
  · obtain ⟨e, he, rfl⟩ := enumD_get hd
    obtain ⟨T, y, rfl, n, rfl, f⟩ := hy
    obtain ⟨v, hv, rv⟩ := Wk.get r e1 he
    have ey := f vs hs
    rw [hv] at ey
    cases ey
    refine pair_new hh n ?_ rv
    cases l with
    | true => rw [if_pos rfl]; exact .of (.int _)
    | false => rw [if_neg Bool.false_ne_true]; exact .int _
theorem itd_zip {H0 G : Hp} {t t2 : Bool} {a b : Addr} {ds es : List D} (w : Wk A l H0 G ds a t) (w2 : Wk A l H0 G es b t2) : ItD A l H0 (ItzA K t t2 a b) G (zipD ds es) := fun i G' H' m e1 e2 => by
  obtain ⟨vs, r, st⟩ := w
  obtain ⟨ws, r2, st2⟩ := w2
  have hs : SqA K t H' a vs := sqA_of (st G' H' m e1 e2)
  have hs2 : SqA K t2 H' b ws := sqA_of (st2 G' H' m e1 e2)
  have ln := Wk.len r
  have ln2 := Wk.len r2
  have zl : (zipD ds es).length = min ds.length es.length := by unfold zipD; simp
  rw [zl]
  refine ⟨fun hi => ?_, fun hi => ⟨vs, ws, hs, hs2, by omega, by omega, by omega⟩, fun d hd hh x H2 hy => ?_⟩
  · obtain ⟨v, hv, _⟩ := Wk.get r (Ex.refl _) (List.getElem?_eq_getElem (show i < ds.length by omega))
    obtain ⟨u, hu, _⟩ := Wk.get r2 (Ex.refl _) (List.getElem?_eq_getElem (show i < es.length by omega))
    exact ⟨vs, ws, v, u, hs, hs2, hv, hu⟩
  · obtain ⟨d1, d2, h1, h2, rfl⟩ := zipD_get hd
    obtain ⟨T, y, z, rfl, n, rfl, f, f2⟩ := hy
    obtain ⟨v, hv, rv⟩ := Wk.get r e1 h1
    obtain ⟨u, hu, ru⟩ := Wk.get r2 e1 h2
    have ey := f vs hs
    rw [hv] at ey
    cases ey
    have ez := f2 ws hs2
    rw [hu] at ez
    cases ez
    exact pair_new hh n rv ru
theorem wk_mono {H0 G G' : Hp} {t : Bool} {a : Addr} {ds : List D} (w : Wk A l H0 G ds a t) (e : Ex G G') : Wk A l H0 G' ds a t := by
  obtain ⟨vs, r, st⟩ := w
  refine ⟨vs, ?_, fun G2 H2 m e1 e2 => st G2 H2 m (e.trans e1) e2⟩
  cases l with
  | true => rw [if_pos rfl] at r ⊢; exact r.mono (Ex.refl _) e
  | false => rw [if_neg Bool.false_ne_true] at r ⊢; exact r.mono e
def seqD (t : Bool) (ds : List D) : D := if t = true then .tup ds else .lst ds
theorem dm_enum {R : List D → Prop} (h : DM A ρ te fun x => ∃ t ds, x = seqD t ds ∧ R (enumD ds)) : DI A true ρ (iEnumA K (tCons te tNil)) R := fun G0 H0 σ G H Rr e q => by
  refine h G0 H0 σ G H _ e fun d v G2 H2 hd rv s => ?_
  obtain ⟨t, ds, rfl, hr⟩ := hd
  have e2 := e.step s
  obtain ⟨a, rfl, w⟩ := wk_lo (tp := t) (ds := ds) (by unfold seqD; rfl) rv
  obtain ⟨vs, r, st⟩ := id w
  exact ⟨t, a, vs, rfl, sqA_of (st G2 H2 (e2.mns.trans mns_ex) (Ex.refl _) s.h), q _ _ G2 H2 hr (itd_enum w) s⟩
theorem dm_zip {R : List D → Prop} (h : DM A ρ ta fun x => DM A ρ tb fun y => ∃ t t2 ds es, x = seqD t ds ∧ y = seqD t2 es ∧ R (zipD ds es)) : DI A true ρ (iZipB K (tCons ta (tCons tb tNil))) R := fun G0 H0 σ G H Rr e q => by
  refine h G0 H0 σ G H _ e fun d v G2 H2 hd rv s => ?_
  refine hd G0 H0 σ G2 H2 _ (e.step s) fun d2 v2 G3 H3 hd2 rv2 s3 => ?_
  obtain ⟨t, t2, ds, es, rfl, rfl, hr⟩ := hd2
  have e3 := (e.step s).step s3
  obtain ⟨a, rfl, w⟩ := wk_lo (tp := t) (ds := ds) (by unfold seqD; rfl) (rv.mono (Ex.refl _) s3.g)
  obtain ⟨b, rfl, w2⟩ := wk_lo (tp := t2) (ds := es) (by unfold seqD; rfl) rv2
  obtain ⟨vs, r, st⟩ := id w
  obtain ⟨ws, r2, st2⟩ := id w2
  exact ⟨t, t2, a, b, vs, ws, rfl, sqA_of (st G3 H3 (e3.mns.trans mns_ex) (Ex.refl _) s3.h), sqA_of (st2 G3 H3 (e3.mns.trans mns_ex) (Ex.refl _) s3.h), q _ _ G3 H3 hr (itd_zip w w2) (s.trans s3)⟩
/-! ### more that reads loose data -/
theorem ca_gcd {a b : Int} {R : D → Prop} (r : R (.int ((Nat.gcd a.natAbs b.natAbs : Nat) : Int))) : CaD A rGcd [.int a, .int b] R := fun G H vs Q hs hv q => by
  cases hv with
  | cons h hn =>
    cases hn with
    | cons h' hn => cases hn; cases h; cases h'; exact ⟨a, b, rfl, q _ _ G H r (.int _) hs.refl⟩
theorem l_isi {c : V} {u : Value} (hc : ClsV c u) (h : DL A ρ te fun d => (∀ k ds, d = .ins k ds → KC K (A.C k).1) ∧ ∃ b, PySem.W.kitOne K (tyD A.C d) u = some b ∧ R (.bl b)) : DE A ρ (tCB (rIsi K) (tCons te (tCons (tC c) tNil))) R := fun G0 H0 σ G H Q e q => by
  refine h G0 H0 σ G H _ e fun d v G2 H2 hd rv s => ?_
  obtain ⟨kc, b, hk, hr⟩ := hd
  exact ⟨v, c, _, u, b, rfl, hc, tyX_of kc (Ex.refl _) (rv.rep mns_ex s.h), hk, q _ _ G2 H2 hr (.bl b) s⟩
theorem l_isiT {c1 c2 : V} {u1 u2 : Value} (h1 : ClsV c1 u1) (h2 : ClsV c2 u2) (h : DL A ρ te fun d => (∀ k ds, d = .ins k ds → KC K (A.C k).1) ∧ ∃ b, PySem.W.kitAny K (tyD A.C d) [u1, u2] = some b ∧ R (.bl b)) :
    DE A ρ (tCB (rIsiT K) (tCons te (tCons (tTup (tCons (tC c1) (tCons (tC c2) tNil))) tNil))) R := fun G0 H0 σ G H Q e q => by
  refine h G0 H0 σ G H _ e fun d v G2 H2 hd rv s => ?_
  obtain ⟨kc, b, hk, hr⟩ := hd
  refine ⟨by show 2 ≤ sizeLine; decide, fun p np => ?_⟩
  have s3 := s.has.grow (Ex.new (o := .tup [c1, c2]) np)
  exact ⟨v, p, _, _, _, b, rfl, upd_same, .cons h1 (.cons h2 .nil), tyX_of kc (Ex.refl _) ((rv.rep mns_ex s.h).mono (Ex.new np)), hk, q _ _ G2 _ hr (.bl b) (s.trans s3)⟩
theorem cl_len {t : Bool} {ds : List D} {R : D → Prop} (r : R (.int ds.length)) : CaL A (fun xs H Q => ∃ p ys, xs = [.ref p] ∧ (SqL K H p ys ∨ SqT K H p ys) ∧ Q (.int ys.length) H) [seqD t ds] R := by
  cases t with
  | true => exact cal_of (ca_lenT ⟨rfl, r⟩)
  | false => exact cal_of (ca_lenL ⟨rfl, r⟩)
/-- len(x), x a list or a tuple, wherever it stands -/
theorem l_len {R : D → Prop} (h : DL A ρ te fun x => ∃ t ds, x = seqD t ds ∧ R (.int ds.length)) : DE A ρ (tCB (fun xs H Q => ∃ p ys, xs = [.ref p] ∧ (SqL K H p ys ∨ SqT K H p ys) ∧ Q (.int ys.length) H) (tCons te tNil)) R :=
  de_dl (dl_cb (dla_cons (h.imp fun x hx => dla_nil (by obtain ⟨t, ds, rfl, r⟩ := hx; exact cl_len ⟨rfl, r⟩))))
/-- list(x): a new list, its items no containers -/
theorem f_list {S : List D → Prop} (h : DL A ρ te fun x => ∃ t ds, x = seqD t ds ∧ (∀ d ∈ ds, leaf d = true) ∧ S ds) : DF A ρ (tCB (fun xs H Q => ∃ p ys, xs = [.ref p] ∧ (SqL K H p ys ∨ SqT K H p ys) ∧ ∀ l, H l = none → Q (.ref l) (upd H l (.lst ys))) (tCons te tNil)) S := fun G0 H0 σ G H Q e q => by
  refine h G0 H0 σ G H _ e fun d v G2 H2 hd rv s => ?_
  obtain ⟨t, ds, rfl, lf, hS⟩ := hd
  have key : ∃ a vs, v = .ref a ∧ (SqL K H2 a vs ∨ SqT K H2 a vs) ∧ LoL A.C (mns A.P H2) G2 ds vs := by
    cases t with
    | true => obtain ⟨a, vs, rfl, ha, r⟩ := Lo.tupI mns_ex s.h rv; exact ⟨a, vs, rfl, .inr (SqT.of ha), r⟩
    | false => obtain ⟨a, vs, rfl, ha, r⟩ := Lo.lstI mns_ex s.h rv; exact ⟨a, vs, rfl, .inl (SqL.of ha), r⟩
  obtain ⟨a, vs, rfl, hs, r⟩ := key
  refine ⟨a, vs, rfl, hs, fun p np => ?_⟩
  exact q ds p vs G2 _ hS (s.back (fun b z => let ⟨o, ho, _⟩ := s.has.some'.2 b z; ⟨o, ho⟩) p np) (Evl.fresh_back s.h np) upd_same (r.leaf lf) (s.trans (s.has.grow (Ex.new np)))
/-- tuple(x), its items no containers -/
theorem e_tuple {R : D → Prop} (h : DL A ρ te fun x => ∃ t ds, x = seqD t ds ∧ (∀ d ∈ ds, leaf d = true) ∧ R (.tup ds)) : DE A ρ (tCB (fun xs H Q => ∃ p ys, xs = [.ref p] ∧ ((SqL K H p ys ∧ ∀ l, H l = none → Q (.ref l) (upd H l (.tup ys))) ∨ (SqT K H p ys ∧ Q (.ref p) H))) (tCons te tNil)) R := fun G0 H0 σ G H Q e q => by
  refine h G0 H0 σ G H _ e fun d v G2 H2 hd rv s => ?_
  obtain ⟨t, ds, rfl, lf, hR⟩ := hd
  cases t with
  | true =>
    obtain ⟨a, vs, rfl, ha, r⟩ := Lo.tupI mns_ex s.h rv
    have s3 := s.has.add (Ex.refl _) ha
    exact ⟨a, vs, rfl, .inr ⟨SqT.of ha, q _ _ _ H2 hR (.tup upd_same ((r.leaf lf).mono s3.g)) (s.trans s3)⟩⟩
  | false =>
    obtain ⟨a, vs, rfl, ha, r⟩ := Lo.lstI mns_ex s.h rv
    refine ⟨a, vs, rfl, .inl ⟨SqL.of ha, fun p np => ?_⟩⟩
    have s3 := s.has.new (o := .tup vs) np
    exact q _ _ _ _ hR (.tup upd_same ((r.leaf lf).mono s3.g)) (s.trans s3)
theorem all_true {bs : List Bool} (h : ∀ b ∈ bs, b = true) : bs.all id = true := List.all_eq_true.mpr fun b hb => h b hb
end
end GD
/-! Maps, all of true, texts put together. -/
namespace GD
open PySem L2 GX PyProof.Rows
open Evl (Ex)
theorem pi_or {X : Cx} {tg e : Expr} {w w' : TI} (h : PI X tg e w) (h' : PI X tg e w') : PI X tg e (fun σ H R => w σ H R ∨ w' σ H R) :=
  ⟨fun pins s σ H R I q => q.elim (h.run pins s σ H R I) (h'.run pins s σ H R I)⟩
section
variable {A : Amb} {l : Bool} {ρ : Ro} {te ta tb : TE} {tl tg : TA} {R : D → Prop} {K : PySem.W.Frag} {x y : D} {E : XK}
theorem dt_yes {S : Bool → Prop} (h : S true) : DT A ρ tYes S := fun G0 H0 σ G H Q e q => q true G H h e.has.refl
theorem take_map {f : D → D} {ds : List D} {i : Nat} {d : D} (h : ds[i]? = some d) : (ds.take (i + 1)).map f = (ds.take i).map f ++ [f d] := by
  rw [List.take_add_one, h, List.map_append]
  rfl
/-- [f(x) for x in wi] -/
theorem df_map {wi : TI} {g : TG} {js : List Nat} {S : List D → Prop} (f : D → D) (h : DI A l ρ wi fun ds => ds.length ≤ 100000 ∧ (∀ (i : Nat) (d : D), ds[i]? = some d → ∃ ρ', DG A l js (wipeR ρ js) g d ρ' ∧ DE A ρ' te (· = f d)) ∧ S (ds.map f)) : DF A ρ (tLc wi g tYes te js) S :=
  df_lc (fun ds i es => es = (ds.take i).map f) fun G0 H0 σ G H Rr e q => h G0 H0 σ G H Rr e fun ds J G2 H2 hd it st => q ds J G2 H2 ⟨Nat.le_trans hd.1 (show 100000 ≤ sizeLine by decide), rfl, fun i d es hi he _ => by
    obtain ⟨ρ', dg, de⟩ := hd.2.1 i d hi
    exact ⟨ρ', dg, dt_yes ⟨fun _ => de.imp fun y hy => by rw [hy, he, take_map hi], fun z => nomatch z⟩⟩, fun es he => by rw [he, List.take_length]; exact hd.2.2⟩ it st
/-- all([..]) of bools told -/
theorem w_allB {R : D → Prop} (h : DF A ρ te fun ds => ∃ bs : List Bool, ds = bs.map D.bl ∧ R (.bl (bs.all id))) : DE A ρ (tCB (rAll K) (tCons te tNil)) R :=
  de_cb (da_one (DF.de (h.imp fun ds hd => by obtain ⟨bs, rfl, r⟩ := hd; exact ca_all r)))
theorem w_anyB {R : D → Prop} (h : DF A ρ te fun ds => ∃ bs : List Bool, ds = bs.map D.bl ∧ R (.bl (bs.any id))) : DE A ρ (tCB (rAny K) (tCons te tNil)) R :=
  de_cb (da_one (DF.de (h.imp fun ds hd => by obtain ⟨bs, rfl, r⟩ := hd; exact ca_any r)))
theorem map_bl {f : D → Bool} {ds : List D} : ds.map (fun d => D.bl (f d)) = (ds.map f).map D.bl := by rw [List.map_map]; rfl
/-! ### texts -/
theorem w_fmtI (h : DE A ρ te fun x => ∃ i : Int, x = .int i ∧ i.natAbs.log2 < 1920 ∧ R (.str (toString i))) : DE A ρ (tFmt te) R := fun G0 H0 σ G H Q e q => by
  refine h G0 H0 σ G H _ e fun d v G2 H2 hd rv s => ?_
  obtain ⟨i, rfl, hl, r⟩ := hd
  cases rv
  exact .inr ⟨i, rfl, hl, q _ _ G2 H2 r (.str _) s⟩
theorem js_nil {acc : Str} (r : R (.str acc)) : DE A ρ (fun σ H Q => tJs [] acc σ H fun out H1 => Q (.str out) H1) R := fun G0 H0 σ G H Q e q => q _ _ G H r (.str _) e.has.refl
theorem js_cons {acc : Str} {t : TE} {ts : List TE} (h : DE A ρ t fun x => ∃ y : Str, x = .str y ∧ (acc ++ y).length ≤ sizeLine ∧ DE A ρ (fun σ H Q => tJs ts (acc ++ y) σ H fun out H1 => Q (.str out) H1) R) :
    DE A ρ (fun σ H Q => tJs (t :: ts) acc σ H fun out H1 => Q (.str out) H1) R := fun G0 H0 σ G H Q e q => by
  refine h G0 H0 σ G H _ e fun d v G2 H2 hd rv s => ?_
  obtain ⟨y, rfl, hl, r⟩ := hd
  cases rv
  exact ⟨y, rfl, hl, r G0 H0 σ G2 H2 Q (e.step s) fun z u G3 H3 hz hu s3 => q z u G3 H3 hz hu (s.trans s3)⟩
/-- two lists put together, their items loose -/
theorem ol_cat {ds es : List D} (hl : ds.length + es.length ≤ 100000) (r : R (.lst (ds ++ es))) : OpL A rCat (.lst ds) (.lst es) R := fun G H v w Q hs hv hw q => by
  obtain ⟨a, vs, rfl, ha, r1⟩ := hv.lstI mns_ex hs.1
  obtain ⟨b, ws, rfl, hb, r2⟩ := hw.lstI mns_ex hs.1
  refine ⟨a, b, vs, ws, rfl, rfl, ha, hb, by rw [r1.len, r2.len]; exact Nat.le_trans hl (show 100000 ≤ sizeLine by decide), fun p np => ?_⟩
  have s3 := hs.grow (Ex.new (o := .lst (vs ++ ws)) np)
  exact q _ _ G _ r (.lst (mns_new (hs.np np)) (s3.loL (r1.append r2))) s3
/-- a constant of a class -/
theorem w_cval {c : Addr} {mc u : Value} {f : Str} {i : Int} (rd : ClX.CRead K c mc) (k : ClX.CVal K c mc f (.int i) u) (r : R (.int i)) : DE A ρ (ClX.tCVal K (tC (.ref c)) f) R := fun G0 H0 σ G H Q e q => ⟨c, mc, _, u, rfl, rd, k, q _ _ G H r (.int i) e.has.refl⟩
/-- a call of a def of the pot, the others data -/
theorem de_callC {i : Nat} {pre : List D → Prop} {post : List D → D → Prop} {E : XK} (hi : ρ[i]? = some (some Sl.pot)) (h : DA A ρ tl fun ds => pre ds ∧ ∀ d, post ds d → R d) : DE A ρ (tCall (spC A.C A.W pre post) [] E (tCons (tVar i) tl)) R := fun G0 H0 σ G H Q e q => by
  obtain ⟨p, hP, hσ⟩ := e.env.pot i hi
  refine ⟨.ref p, hσ, ?_⟩
  refine h G0 H0 σ G H _ e fun ds vs G2 H2 hp r s2 => ⟨p, G2, ds, vs, by rw [List.append_nil], by rw [← hP]; exact s2.has, r, hp.1, fun d v G3 H3 hd r3 s3 => ?_⟩
  rw [← hP] at s3
  exact q d v G3 H3 (hp.2 d hd) r3 (s2.trans s3)
/-- the pot alone changed -/
theorem stp_pot {W : HO → Prop} {p : Addr} {G H H' : Hp} {o : HO} (hs : Has (some p) W G H) (k : ∀ a o, a ≠ p → H a = some o → H' a = some o) (hp : H' p = some o) (w : W o) (nt : NT o) : Stp (some p) W G H G H' :=
  ⟨Ex.refl G, fun a o q => k a o (fun z => by rw [z, (hs.2 p rfl).1] at q; cases q) (hs.1 a o q), fun a o q n => k a o (fun z => n (by rw [z])) q, fun _ _ q _ _ => q, fun a e => by cases e; exact ⟨(hs.2 p rfl).1, o, hp, w, nt⟩⟩
end
end GD
/-! Re-entry: a loop over new lists, each of which the loop's body may change. -/
namespace GD
open PySem L2
open Evl (Ex)
theorem mns_at {a : Addr} {H : Hp} : mns (some a) H a = none := by unfold mns; rw [if_pos rfl]
theorem mns_ne {a b : Addr} {H : Hp} (n : b ≠ a) : mns (some a) H b = H b := by unfold mns; rw [if_neg fun z => n (Option.some.inj z)]
/-- from an inner entry back to the outer one -/
theorem Stp.unl {P : Option Addr} {W : HO → Prop} {G0 H0 G H G2 H2 : Hp} {a : Addr} (h0 : Has P W G0 H0) (n0 : H0 a = none) (s : Stp P W G0 H0 G H) (t : Stp P W G (GD.mns (some a) H) G2 H2) : Stp P W G0 H0 G2 H2 := by
  refine ⟨s.g.trans t.g, t.h, fun b o q n => ?_, fun b o q1 q2 q3 => ?_, t.p⟩
  · have ba : b ≠ a := fun z => by rw [z, n0] at q; cases q
    exact t.k b o (by rw [mns_ne ba]; exact s.k b o q n) n
  · have ba : b ≠ a := fun z => by rw [z, n0] at q2; cases q2
    by_cases n : some b = P
    · exact (t.p b n.symm).1
    · exact t.f b o (s.f b o q1 q2 q3) (by rw [mns_ne ba]; exact s.k b o q2 n) q3
/-- slots hold data or the pot, but for i -/
def Vp (i : Nat) (ρ : Ro) : Prop := ∀ (j : Nat) (s : Sl), j ≠ i → ρ[j]? = some (some s) → (∃ d, s = .val d) ∨ s = .pot
section
variable {A : Amb} {G0 H0 G H G2 H2 : Hp} {ρ ρ2 : Ro} {σ σ2 : L2.St} {i : Nat} {a : Addr} {vs : List V} {ds : List D}
theorem Here.noP (e : Here A G0 H0 ρ σ G H) (n0 : H0 a = none) : some a ≠ A.P := fun z => by
  obtain ⟨_, o, ho, _⟩ := e.ent.2 a z.symm
  rw [n0] at ho; cases ho
theorem Here.loan (e : Here A G0 H0 ρ σ G H) (vp : Vp i ρ) (il : i < ρ.length) (n0 : H0 a = none) (ng : G a = none) (ha : H a = some (.lst vs)) (rl : RepL A.C G ds vs) :
    Here A G (GD.mns (some a) H) (ρ.set i (some (.own ds))) (σ.set i (some (.ref a))) G H := by
  have f := e.env
  have np := e.noP n0
  have key : ∀ {j : Nat} {s : Sl}, j ≠ i → (ρ.set i (some (Sl.own ds)))[j]? = some (some s) → ρ[j]? = some (some s) := fun m q => by
    rw [List.getElem?_set_ne (Ne.symm m)] at q; exact q
  have keyσ : ∀ {j : Nat}, j ≠ i → (σ.set i (some (.ref a)))[j]? = σ[j]? := fun m => List.getElem?_set_ne (Ne.symm m)
  have at_ : ∀ {s : Sl}, (ρ.set i (some (Sl.own ds)))[i]? = some (some s) → s = Sl.own ds := fun {s} q => by
    rw [List.getElem?_set_self il] at q; cases q; rfl
  have no : ∀ {j : Nat} {s : Sl}, (ρ.set i (some (Sl.own ds)))[j]? = some (some s) → (j = i ∧ s = Sl.own ds) ∨ (∃ d, s = .val d) ∨ s = .pot := fun {j s} q => by
    by_cases hj : j = i
    · subst hj; exact .inl ⟨rfl, at_ q⟩
    · exact .inr (vp j s hj (key hj q))
  refine ⟨⟨Ex.refl _, e.st.h, fun b o q _ => mns_ex b o q, fun _ _ q _ _ => q, e.st.p⟩, ⟨by rw [List.length_set, List.length_set]; exact f.len, fun j d' q => ?_, fun j es q => ?_, fun j k b es fs q1 q2 _ _ => ?_, fun j d' q => ?_, fun j a' dx c es q => ?_, fun j q => ?_⟩, ⟨fun b o q => ?_, fun b q => ?_⟩⟩
  · have hj : j ≠ i := fun z => by subst z; exact nomatch at_ q
    obtain ⟨w, h1, h2⟩ := f.val j d' (key hj q)
    exact ⟨w, (keyσ hj).trans h1, h2⟩
  · rcases no q with ⟨rfl, z⟩ | ⟨d, z⟩ | z
    · cases z
      exact ⟨a, vs, List.getElem?_set_self (by rw [f.len]; exact il), mns_at, ng, ha, rl⟩
    · cases z
    · cases z
  · rcases no q1 with ⟨rfl, _⟩ | ⟨d, z⟩ | z
    · rcases no q2 with ⟨rfl, _⟩ | ⟨d, z⟩ | z
      · rfl
      · cases z
      · cases z
    · cases z
    · cases z
  · rcases no q with ⟨rfl, z⟩ | ⟨d, z⟩ | z <;> cases z
  · rcases no q with ⟨rfl, z⟩ | ⟨d, z⟩ | z <;> cases z
  · have hj : j ≠ i := fun z => by subst z; exact nomatch at_ q
    obtain ⟨b, h1, h2⟩ := f.pot j (key hj q)
    exact ⟨b, h1, (keyσ hj).trans h2⟩
  · rw [mns_ne (fun z => by rw [z, ng] at q; cases q)]; exact e.st.h b o q
  · rw [mns_ne (fun z => np (by rw [← z]; exact q.symm))]; exact e.st.p b q
theorem set_self? {α : Type} {l : List α} {i : Nat} {x : α} (h : l[i]? = some x) : l.set i x = l := by
  refine List.ext_getElem? fun j => ?_
  by_cases hj : i = j
  · subst hj
    rw [h, List.getElem?_set_self (List.getElem?_eq_some_iff.mp h).1]
  · rw [List.getElem?_set_ne hj]
theorem Here.dropI (e : Here A G0 H0 ρ σ G H) (i : Nat) : Here A G0 H0 (ρ.set i none) σ G H := by
  cases q : σ[i]? with
  | some x => have := e.drop i x; rw [set_self? q] at this; exact this
  | none =>
    have h1 : σ.length ≤ i := List.getElem?_eq_none_iff.mp q
    have : ρ.set i none = ρ := List.set_eq_of_length_le (by rw [← e.env.len]; exact h1)
    rw [this]; exact e
theorem Here.unl (e : Here A G0 H0 ρ σ G H) (n0 : H0 a = none) (e2 : Here A G (GD.mns (some a) H) ρ2 σ2 G2 H2) (vp : Vp i ρ2) : Here A G0 H0 (ρ2.set i none) σ2 G2 H2 := by
  have e3 := e2.dropI i
  have f := e3.env
  have no : ∀ {j : Nat} {s : Sl}, (ρ2.set i none)[j]? = some (some s) → (∃ d, s = .val d) ∨ s = .pot := fun {j s} q => by
    by_cases hj : j = i
    · subst hj
      by_cases hi : j < ρ2.length
      · rw [List.getElem?_set_self hi] at q; cases q
      · rw [List.getElem?_eq_none (by rw [List.length_set]; omega)] at q; cases q
    · rw [List.getElem?_set_ne (Ne.symm hj)] at q; exact vp j s hj q
  refine ⟨Stp.unl e.ent n0 e.st e2.st, ⟨f.len, f.val, fun j es q => ?_, fun j k b es fs q1 q2 _ _ => ?_, fun j d' q => ?_, fun j a' dx c es q => ?_, f.pot⟩, e.ent⟩
  · rcases no q with ⟨d, z⟩ | z <;> cases z
  · rcases no q1 with ⟨d, z⟩ | z <;> cases z
  · rcases no q with ⟨d, z⟩ | z <;> cases z
  · rcases no q with ⟨d, z⟩ | z <;> cases z
end
/-! ### several new lists -/
structure Fss (C : CT) (H G2 H2 : Hp) (dss : List (List D)) (as : List Addr) : Prop where
  len : as.length = dss.length
  nd : as.Nodup
  fr : ∀ (k : Nat) (ds : List D) (a : Addr), dss[k]? = some ds → as[k]? = some a → H a = none ∧ G2 a = none ∧ ∃ vs, H2 a = some (.lst vs) ∧ RepL C G2 ds vs
def DFs (A : Amb) (ρ : Ro) (ta : TA) (R : List (List D) → Prop) : Prop := ∀ G0 H0 σ G H (Q : List V → Hp → Prop), Here A G0 H0 ρ σ G H →
  (∀ dss as G2 H2, R dss → Fss A.C H G2 H2 dss as → A.St G H G2 H2 → Q (as.map V.ref) H2) → ta σ H Q
section
variable {A : Amb} {ρ : Ro} {te ta tb : TE} {tt : TT} {tl tr : TA} {ts tu tv : TS} {N : Nd} {K : PySem.W.Frag}
theorem dfs_nil {S : List (List D) → Prop} (h : S []) : DFs A ρ tNil S := fun G0 H0 σ G H Q e q => q [] [] G H h ⟨rfl, .nil, fun k ds a z => by simp at z⟩ e.has.refl
theorem dfs_cons {S : List (List D) → Prop} (h : DF A ρ ta fun ds => DFs A ρ tr fun dss => S (ds :: dss)) : DFs A ρ (tCons ta tr) S := fun G0 H0 σ G H Q e q => by
  refine h G0 H0 σ G H _ e fun ds a vs G2 H2 hd n g ha rl s => ?_
  refine hd G0 H0 σ G2 H2 _ (e.step s) fun dss as G3 H3 hs F s3 => ?_
  have bk := s.back (fun b z => let ⟨_, o, ho, _⟩ := s.p b z; ⟨o, ho⟩)
  have np : some a ≠ A.P := e.has.np n
  refine q (ds :: dss) (a :: as) G3 H3 hs ⟨by simp [F.len], List.nodup_cons.mpr ⟨fun z => ?_, F.nd⟩, fun k es b h1 h2 => ?_⟩ (s.trans s3)
  · obtain ⟨k, hk⟩ := List.getElem?_of_mem z
    have kl : k < dss.length := by rw [← F.len]; exact (List.getElem?_eq_some_iff.mp hk).1
    have := (F.fr k _ a (List.getElem?_eq_getElem kl) hk).1
    rw [ha] at this; cases this
  · cases k with
    | zero =>
      simp at h1 h2
      subst h1; subst h2
      exact ⟨n, s3.f a _ g ha (fun _ z => nomatch z), vs, s3.k a _ ha np, rl.mono s3.g⟩
    | succ k =>
      obtain ⟨z1, z2, z3⟩ := F.fr k es b (by simpa using h1) (by simpa using h2)
      exact ⟨bk b z1, z2, z3⟩
/-- a new list whose items are leaves -/
theorem df_dn {R : List D → Prop} (h : DN A ρ te fun d => ∃ ds, d = .lst ds ∧ (∀ e ∈ ds, leaf e = true) ∧ R ds) : DF A ρ te R := fun G0 H0 σ G H Q e q => by
  refine h G0 H0 σ G H _ e fun d v G2 H2 hd r s => ?_
  obtain ⟨ds, rfl, hl, hr⟩ := hd
  have rep : ∀ {ds : List D} {H' : Hp} {vs : List V}, FrL A.C G2 H2 H' ds vs → (∀ d ∈ ds, leaf d = true) → RepL A.C G2 ds vs := by
    intro ds H'
    induction ds with
    | nil => intro vs r _; cases r; exact .nil
    | cons d ds ih =>
      intro vs r l
      cases r with
      | cons r1 r2 =>
        refine .cons ?_ (ih r2 fun e he => l e (List.mem_cons_of_mem _ he))
        have := l d List.mem_cons_self
        cases r1 with
        | leaf _ rr => exact rr
        | lst _ _ _ _ => cases this
        | tup _ _ => cases this
  cases r with
  | leaf l _ => cases l
  | lst h1 h2 h3 rl => exact q ds _ _ G2 H2 hr h1 h2 h3 (rep rl hl) s
/-- for x in [new lists]: each is the body's own; slots hold data or the pot -/
theorem ds_forF {i : Nat} (I : Nat → Ro → Prop) (h : DFs A ρ tl fun dss => dss.length ≤ sizeLine ∧ I 0 ρ ∧
    (∀ k ds ρ', dss[k]? = some ds → I k ρ' → Vp i ρ' ∧ i < ρ'.length ∧ DS A (ρ'.set i (some (Sl.own ds))) tu { nx := fun ρ2 => Vp i ρ2 ∧ I (k + 1) (ρ2.set i none), ct := fun ρ2 => Vp i ρ2 ∧ I (k + 1) (ρ2.set i none), rt := N.rt }) ∧
    ∀ ρ', I dss.length ρ' → N.nx ρ') : DS A ρ (tFor (iList K (tLst tl)) (gName i) tu) N := fun G0 H0 σ G H E e k1 k2 k3 k4 => by
  refine h G0 H0 σ G H _ e fun dss as G1 H1 hd F s1 => ⟨by rw [List.length_map, F.len]; exact hd.1, fun p np => ?_⟩
  obtain ⟨_, hI0, hturn, hend⟩ := hd
  have s2 := s1.has.grow (Ex.new (o := .lst (as.map V.ref)) np)
  have s12 := s1.trans s2
  have e1 := e.step s12
  have pP : some p ≠ A.P := s1.has.np np
  have pH0 : H0 p = none := e.st.back (fun b z => let ⟨_, o, ho, _⟩ := e.st.p b z; ⟨o, ho⟩) p (s1.back (fun b z => let ⟨_, o, ho, _⟩ := s1.p b z; ⟨o, ho⟩) p np)
  have aH0 : ∀ (k : Nat) (a : Addr), as[k]? = some a → H0 a = none := fun k a hk => by
    have kl : k < dss.length := by rw [← F.len]; exact (List.getElem?_eq_some_iff.mp hk).1
    exact e.st.back (fun b z => let ⟨_, o, ho, _⟩ := e.st.p b z; ⟨o, ho⟩) a (F.fr k _ a (List.getElem?_eq_getElem kl) hk).1
  have pa : ∀ (k : Nat) (a : Addr), as[k]? = some a → p ≠ a := fun k a hk z => by
    have kl : k < dss.length := by rw [← F.len]; exact (List.getElem?_eq_some_iff.mp hk).1
    obtain ⟨_, _, vs, hv, _⟩ := F.fr k _ a (List.getElem?_eq_getElem kl) hk
    rw [← z, np] at hv; cases hv
  let J : Nat → L2.St → Hp → Prop := fun i σ' H' => ∃ ρ' G', I i ρ' ∧ Here A G0 H0 ρ' σ' G' H' ∧ Ex G1 G' ∧ H' p = some (.lst (as.map V.ref)) ∧
    ∀ (k : Nat) (ds : List D) (a : Addr), i ≤ k → dss[k]? = some ds → as[k]? = some a → G' a = none ∧ ∃ vs, H' a = some (.lst vs) ∧ RepL A.C G1 ds vs
  refine ⟨_, rfl, ⟨_, SqL.of (upd_same)⟩, fun i m σ' H' => m = dss.length - i ∧ i ≤ dss.length ∧ J i σ' H', ⟨_, rfl, Nat.zero_le _, ρ, G1, hI0, e1, Ex.refl _, upd_same, fun k ds a _ h1 h2 => ?_⟩, ?_⟩
  · obtain ⟨_, z2, vs, z3, z4⟩ := F.fr k ds a h1 h2
    exact ⟨z2, vs, by rw [upd_ne (fun z => pa k a h2 z.symm)]; exact z3, z4⟩
  rintro t m σ' H' ⟨rfl, ht, ρ', G', hI, e', x', hp, hf⟩
  rcases Nat.lt_or_ge t dss.length with hlt | hge
  · have hla : t < as.length := by rw [F.len]; exact hlt
    have hat := List.getElem?_eq_getElem hla
    obtain ⟨ng, vs, ha, rl⟩ := hf t _ _ (Nat.le_refl _) (List.getElem?_eq_getElem hlt) hat
    have n0 := aH0 t _ hat
    refine .inr ⟨⟨_, _, SqL.of hp, by rw [List.getElem?_map, hat]; rfl⟩, fun σ2 H2 => J (t + 1) σ2 H2, ?_, ?_⟩
    · intro σ2 H2 hJ
      exact ⟨_, by omega, rfl, by omega, hJ⟩
    · intro y H2 hy
      obtain ⟨rfl, hx⟩ := hy
      have hy := hx _ (SqL.of hp)
      rw [List.getElem?_map, hat] at hy
      cases hy
      obtain ⟨vp, il, body⟩ := hturn t _ ρ' (List.getElem?_eq_getElem hlt) hI
      have e2 := e'.loan vp il n0 ng ha (rl.mono x')
      have fin : ∀ ρ3 σ3 G3 H3, (Vp i ρ3 ∧ I (t + 1) (ρ3.set i none)) → Here A G' (GD.mns (some as[t]) H2) ρ3 σ3 G3 H3 → J (t + 1) σ3 H3 := fun ρ3 σ3 G3 H3 hn e3 => by
        have kp : ∀ (b : Addr) (o : HO), b ≠ as[t] → H0 b = none → H2 b = some o → H3 b = some o := fun b o n n0 q => e3.st.k b o (by rw [mns_ne n]; exact q) (e'.noP n0)
        refine ⟨_, G3, hn.2, e'.unl n0 e3 hn.1, x'.trans e3.st.g, kp p _ (pa t _ hat) pH0 hp, fun k ds a hk h1 h2 => ?_⟩
        obtain ⟨z1, ws, z2, z3⟩ := hf k ds a (by omega) h1 h2
        have na : a ≠ as[t] := fun z => by
          subst z
          have kl : k < as.length := (List.getElem?_eq_some_iff.mp h2).1
          have h3 : as[k] = as[t] := by rw [List.getElem?_eq_getElem kl] at h2; exact Option.some.inj h2
          exact (List.pairwise_iff_getElem.mp F.nd) t k hla kl (by omega) h3.symm
        exact ⟨e3.st.f a (.lst ws) z1 (by rw [mns_ne na]; exact z2) (fun _ z => nomatch z), ws, kp a _ na (aH0 k a h2) z2, z3⟩
      exact body G' (GD.mns (some as[t]) H2) _ G' H2 _ e2 (fun ρ3 σ3 G3 H3 n z _ => fin ρ3 σ3 G3 H3 n z) ⟨fun d v G3 H3 n rv st => k2.1 d v G3 H3 n rv (Stp.unl e'.ent n0 e'.st st), fun _ _ _ _ n => n.elim⟩ (fun _ _ _ _ n => n.elim) (fun ρ3 σ3 G3 H3 n z _ => fin ρ3 σ3 G3 H3 n z)
  · have : t = dss.length := by omega
    subst this
    exact .inl ⟨⟨_, SqL.of hp, by rw [List.length_map, F.len]; exact Nat.le_refl _⟩, k1 ρ' σ' G' H' (hend ρ' hI) e' ((s1.g).trans x')⟩
theorem ds_forFs {i : Nat} (I : Nat → Ro → Prop) (h : DFs A ρ tl fun dss => dss.length ≤ sizeLine ∧ I 0 ρ ∧
    (∀ k ds ρ', dss[k]? = some ds → I k ρ' → Vp i ρ' ∧ i < ρ'.length ∧ DS A (ρ'.set i (some (Sl.own ds))) tu { nx := fun ρ2 => Vp i ρ2 ∧ I (k + 1) (ρ2.set i none), ct := fun ρ2 => Vp i ρ2 ∧ I (k + 1) (ρ2.set i none), rt := N.rt }) ∧
    ∀ ρ', I dss.length ρ' → DS A ρ' ts N) : DS A ρ (tSeq (tFor (iList K (tLst tl)) (gName i) tu) ts) N :=
  ds_cut (M := fun ρ' => DS A ρ' ts N) (ds_forF (N := { N with nx := fun ρ' => DS A ρ' ts N }) I h) fun _ h => h
/-- a look at the own list: data as long as the test goes -/
theorem dt_look {i : Nat} {ds : List D} {S : Bool → Prop} (hi : ρ[i]? = some (some (Sl.own ds))) (h : DT A (ρ.set i (some (Sl.val (.lst ds)))) tt S) : DT A ρ tt S := fun G0 H0 σ G H Q e q => by
  obtain ⟨G', e', hx⟩ := e.frz hi
  refine h G0 H0 σ G' H _ e' fun b G2 H2 hb s => q b G H2 hb ⟨Ex.refl _, (hx.trans s.g).trans s.h, s.k, fun _ _ z _ _ => z, fun b z => ⟨?_, (s.p b z).2⟩⟩
  exact (e.has.2 b z).1
end
end GD
/-! == and != of plain data at any depth; != of instances by the own == alone; text + text. -/
namespace GD
open PySem L2 GX
open Evl (Ex)
mutual
/-- data with no instance -/
inductive Pl : D → PyData → Prop
  | non : Pl .non .none
  | bl (b : Bool) : Pl (.bl b) (.bool b)
  | int (i : Int) : Pl (.int i) (.int i)
  | str (x : Str) : Pl (.str x) (.str x)
  | lst {ds : List D} {ps : List PyData} : PlL ds ps → Pl (.lst ds) (.list ps)
  | tup {ds : List D} {ps : List PyData} : PlL ds ps → Pl (.tup ds) (.tuple ps)
inductive PlL : List D → List PyData → Prop
  | nil : PlL [] []
  | cons {d : D} {p : PyData} {ds : List D} {ps : List PyData} : Pl d p → PlL ds ps → PlL (d :: ds) (p :: ps)
end
section
variable {C : CT} {G H : Hp} {K : PySem.W.Frag}
mutual
theorem Pl.dp (x : Ex G H) : ∀ {d : D} {p : PyData} {v : V}, Pl d p → Rep C G d v → Dp K H v p
  | _, _, _, .non, .non => .non
  | _, _, _, .bl b, .bl _ => .bl b
  | _, _, _, .int i, .int _ => .int i
  | _, _, _, .str s, .str _ => .str s
  | _, _, _, .lst h, .lst g r => .lst (SqL.of (x _ _ g)) (PlL.dp x h r)
  | _, _, _, .tup h, .tup g r => .tup (SqT.of (x _ _ g)) (PlL.dp x h r)
theorem PlL.dp (x : Ex G H) : ∀ {ds : List D} {ps : List PyData} {vs : List V}, PlL ds ps → RepL C G ds vs → DpAll K H vs ps
  | _, _, _, .nil, .nil => .nil
  | _, _, _, .cons h hs, .cons r rs => .cons (Pl.dp x h r) (PlL.dp x hs rs)
end
theorem pl_map {α : Type} {f : α → D} {g : α → PyData} (h : ∀ a, Pl (f a) (g a)) : ∀ xs : List α, PlL (xs.map f) (xs.map g)
  | [] => .nil
  | x :: xs => .cons (h x) (pl_map h xs)
theorem canLay_map {α : Type} {g : α → PyData} (h : ∀ a, (g a).canLay0 = true) : ∀ xs : List α, PyData.canLayAll0 (xs.map g) = true
  | [] => by simp [PyData.canLayAll0]
  | x :: xs => by rw [List.map_cons, PyData.canLayAll0, h x, canLay_map h xs]; rfl
theorem depth_map {α : Type} {g : α → PyData} {n : Nat} (h : ∀ a, (g a).depth ≤ n) : ∀ xs : List α, PyData.depthAll (xs.map g) ≤ n
  | [] => by simp [PyData.depthAll]
  | x :: xs => by rw [List.map_cons, PyData.depthAll]; exact Nat.max_le.mpr ⟨h x, depth_map h xs⟩
theorem shaped_map {α : Type} {g : α → PyData} {n : Nat} (h1 : ∀ a, (g a).canLay0 = true) (h : ∀ a, (g a).depth ≤ n) (hn : n ≤ 60) (xs : List α) : SeqAt.shaped (.list (xs.map g)) = true := by
  unfold SeqAt.shaped
  rw [Bool.and_eq_true]
  refine ⟨by rw [PyData.canLay0]; exact canLay_map h1 xs, decide_eq_true ?_⟩
  rw [PyData.depth]
  have := depth_map h xs
  omega
theorem canLay_sh {p : PyData} (h : SeqAt.shaped p = true) : p.canLay0 = true := SeqAt.canLay_of_shaped h
end
section
variable {A : Amb} {ρ : Ro} {R : D → Prop} {x y : D} {K : PySem.W.Frag} {X : Cx} {p q : PyData} {k j : Nat}
theorem ce_D (h1 : Pl x p) (h2 : Pl y q) (s1 : SeqAt.shaped p = true) (s2 : SeqAt.shaped q = true) (r : R (.bl (PyData.eqv p q))) : OpD A (rEqD K) x y R := fun G H v w Q hs hv hw k =>
  ⟨p, q, h1.dp hs.1 hv, h2.dp hs.1 hw, s1, s2, k _ _ G H r (.bl _) hs.refl⟩
theorem cn_D (h1 : Pl x p) (h2 : Pl y q) (s1 : SeqAt.shaped p = true) (s2 : SeqAt.shaped q = true) (r : R (.bl (!PyData.eqv p q))) : OpD A (rNeD K) x y R := fun G H v w Q hs hv hw k =>
  ⟨p, q, h1.dp hs.1 hv, h2.dp hs.1 hw, s1, s2, k _ _ G H r (.bl _) hs.refl⟩
/-- x != x -/
theorem cn_same (h1 : Pl x p) (s1 : SeqAt.shaped p = true) (r : R (.bl false)) : OpD A (rNeD K) x x R := cn_D h1 h1 s1 s1 (by rw [SeqAt.eqv_refl p (canLay_sh s1)]; exact r)
/-- the own __eq__ of the c-th class, answered on these fields -/
structure OwnQ (X : Cx) (C : CT) (k c : Nat) (ds es : List D) (b : Bool) : Prop where
  ex : ∃ (f : Addr) (fd : FuncData) (pre : List D → Prop) (post : List D → D → Prop), FnOk X.prog X.w X.K X.mg X.base CX0 k f fd ["self", "other"] (spD C pre post) ∧ Binds X.K fd ["self", "other"] [] ∧
    PySem.W.findIn X.K (.ref (C c).1) "__eq__" = some (some (.ref f)) ∧ PySem.W.isFn X.K (.ref f) = true ∧ pre [.ins c ds, .ins c es] ∧ ∀ d, post [.ins c ds, .ins c es] d → d = .bl b
/-- != of instances of one own class -/
def rNeQ (X : Cx) (C : CT) (k j : Nat) : R2 := fun x y H Q => ∃ c ds es b G, Ex G H ∧ Rep C G (.ins c ds) x ∧ Rep C G (.ins c es) y ∧ OwnQ X C k c ds es b ∧
  PySem.W.findIn X.K (.ref (C c).1) "__ne__" = some (some (.builtin "object.__ne__")) ∧ PySem.W.mroIn X.K (C c).1 (.type "object") = some true ∧ k + 1 ≤ j ∧ ∀ H', Ex H H' → Q (.bl (!b)) H'
theorem op_neQ {C : CT} (hr : Room j X.A) : OpR X (compareOp .NotEq) (rNeQ X C k j) := by
  intro pins s σ H x y u v Q I rx ry h
  obtain ⟨c, ds, es, bb, G, xg, r1, r2, o, hn, hm, hj, q⟩ := h
  obtain ⟨fa, fd, pre, post, F, hb, hs, hf, hp, hq⟩ := o.ex
  cases id r1 with
  | ins g1 l1 n1 =>
    cases id r2 with
    | ins g2 l2 n2 =>
      rename_i a dx vs b dy ws
      cases (show u = Value.ref a from rx)
      cases (show v = Value.ref b from ry)
      obtain ⟨mA, OA, _⟩ := ins_get I.hok (xg _ _ g1)
      obtain ⟨oa, JA, _⟩ := OA.look
      obtain ⟨mB, OB, _⟩ := ins_get I.hok (xg _ _ g2)
      obtain ⟨ob, JB, _⟩ := OB.look
      have hr2 : Room (k + 1) X.A := hr.mono hj
      show wpAny (model X.prog X.w) X.A (richCompare .NotEq (.ref a) (.ref b)) (EP X pins σ Q) X.xe s
      refine ne_own hr2.units0 hr2.in1.units0 I.kIn JA JB.type (by simp [PySem.W.notFirst]) hn hm hs hf ?_
      refine wpAny_mono (run_at (σ := σ) (H := H) (Q := fun v H' => v = .bl bb ∧ Ex H H') (E := E0) (vs := [.ref a, .ref b]) ⟨hr2.in1, rfl⟩ F hb I (va (va .nil)) ⟨G, [.ins c ds, .ins c es], xg, .cons (.of r1) (.cons (.of r2) .nil), hp, fun d v G2 H2 hd rv st => ?_⟩) (fun z s' w => ?_) fun _ _ z => z
      · rw [hq d hd] at rv
        cases rv
        exact ⟨rfl, fun b o q => st.k b o q (by simp)⟩
      · obtain ⟨v, H', J, rw', rfl, y⟩ := w
        cases (show z = Value.bool _ from rw')
        exact ⟨_, rfl, .bl _, H', J, rfl, q H' y⟩
theorem cn_Q {c : Nat} {ds es : List D} {b : Bool} (o : OwnQ X A.C k c ds es b) (hn : PySem.W.findIn X.K (.ref (A.C c).1) "__ne__" = some (some (.builtin "object.__ne__"))) (hm : PySem.W.mroIn X.K (A.C c).1 (.type "object") = some true) (hj : k + 1 ≤ j) (r : R (.bl (!b))) :
    OpD A (rNeQ X A.C k j) (.ins c ds) (.ins c es) R := fun G H v w Q hs hv hw q => ⟨c, ds, es, b, G, hs.1, hv, hw, o, hn, hm, hj, fun H' e => q _ _ G H' r (.bl _) (hs.grow e)⟩
/-- text + text -/
theorem od_cat {s t : Str} (hl : s.length + t.length ≤ sizeLine) (r : R (.str (s ++ t))) : OpD A (fun x y H Q => ∃ i j, x = .str i ∧ y = .str j ∧ i.length + j.length ≤ sizeLine ∧ Q (.str (i ++ j)) H) (.str s) (.str t) R := fun G H v w Q hs hv hw q => by
  cases hv
  cases hw
  exact ⟨s, t, rfl, rfl, hl, q _ _ G H r (.str _) hs.refl⟩
end
end GD
/-! A new value with new lists in it: looked at, handed over loose, then changed where it stands. -/
namespace GD
open PySem L2
open Evl (Ex)
section
variable {C : CT} {P : Option Addr} {W : HO → Prop} {G2 H2 : Hp}
theorem mns_put {a : Addr} {o : HO} (n : some a ≠ P) (h : H2 a = some o) : mns P H2 a = some o := by unfold mns; rw [if_neg n]; exact h
mutual
/-- what is new is loose data -/
theorem Fr.lo (w : ∀ b, P = some b → ∃ o, H2 b = some o ∧ NT o) : ∀ {H : Hp} {d : D} {v : V}, (∀ b, P = some b → H b ≠ none) → Fr C G2 H2 H d v → Lo C (mns P H2) G2 d v
  | _, _, _, _, .leaf l r => .of r
  | _, _, _, hp, .lst h1 h2 h3 r => .lst (mns_put (fun z => hp _ z.symm h1) h3) (FrL.lo w (upd_nn hp) r)
  | _, _, _, hp, .tup h3 r => .tup (mns_put (fun z => by
      obtain ⟨o, ho, nt⟩ := w _ z.symm
      rw [h3] at ho
      exact nt _ (Option.some.inj ho).symm) h3) (FrL.lo w hp r)
theorem FrL.lo (w : ∀ b, P = some b → ∃ o, H2 b = some o ∧ NT o) : ∀ {H : Hp} {ds : List D} {vs : List V}, (∀ b, P = some b → H b ≠ none) → FrL C G2 H2 H ds vs → LoL C (mns P H2) G2 ds vs
  | _, _, _, _, .nil => .nil
  | _, _, _, hp, .cons h r => .cons (Fr.lo w hp h) (FrL.lo w hp r)
end
theorem FrL.get : ∀ {H : Hp} {ds : List D} {vs : List V} {i : Nat} {d : D}, FrL C G2 H2 H ds vs → ds[i]? = some d → ∃ v, vs[i]? = some v ∧ Fr C G2 H2 H d v
  | _, _, _, _, _, .nil, e => by simp at e
  | _, _, _, 0, _, .cons h _, e => by simp at e; subst e; exact ⟨_, rfl, h⟩
  | _, _, _, i + 1, _, .cons _ r, e => by
    obtain ⟨v, h1, h2⟩ := r.get (i := i) (by simpa using e)
    exact ⟨v, by simpa using h1, h2⟩
end
section
variable {A : Amb} {G0 H0 G H H' : Hp} {ρ : Ro} {σ : L2.St} {i : Nat} {d : D} {v : V}
/-- re-entry for a look: the value at i loose -/
theorem Here.look (e : Here A G0 H0 ρ σ G H) (vp : Vp i ρ) (il : ρ[i]? = some none) (hσ : σ[i]? = some (some v)) (r : Lo A.C (GD.mns A.P H) G d v) : Here A G H (ρ.set i (some (.arg d))) σ G H := by
  have f := e.env
  have key : ∀ {j : Nat} {s : Sl}, j ≠ i → (ρ.set i (some (Sl.arg d)))[j]? = some (some s) → ρ[j]? = some (some s) := fun {j s} n q => by
    rw [List.getElem?_set_ne (Ne.symm n)] at q; exact q
  have at_ : ∀ {s : Sl}, (ρ.set i (some (Sl.arg d)))[i]? = some (some s) → s = .arg d := fun {s} q => by
    rw [List.getElem?_set_self (List.getElem?_eq_some_iff.mp il).1] at q; cases q; rfl
  have no : ∀ {j : Nat} {s : Sl}, (ρ.set i (some (Sl.arg d)))[j]? = some (some s) → (j = i ∧ s = .arg d) ∨ (∃ d, s = .val d) ∨ s = .pot := fun {j s} q => by
    by_cases hj : j = i
    · subst hj; exact .inl ⟨rfl, at_ q⟩
    · exact .inr (vp j s hj (key hj q))
  refine ⟨e.has.refl, ⟨by rw [List.length_set]; exact f.len, fun j d' q => ?_, fun j es q => ?_, fun j k b es fs q1 q2 _ _ => ?_, fun j d' q => ?_, fun j a' dx c es q => ?_, fun j q => ?_⟩, e.has⟩
  · have hj : j ≠ i := fun z => by subst z; exact nomatch at_ q
    exact f.val j d' (key hj q)
  · rcases no q with ⟨rfl, z⟩ | ⟨d, z⟩ | z <;> cases z
  · rcases no q1 with ⟨rfl, z⟩ | ⟨d, z⟩ | z <;> cases z
  · by_cases hj : j = i
    · subst hj
      cases at_ q
      exact ⟨v, hσ, r⟩
    · rcases vp j _ hj (key hj q) with ⟨d, z⟩ | z <;> cases z
  · rcases no q with ⟨rfl, z⟩ | ⟨d, z⟩ | z <;> cases z
  · have hj : j ≠ i := fun z => by subst z; exact nomatch at_ q
    exact f.pot j (key hj q)
/-- objects that are neither data nor from the entry change -/
theorem Here.mutX (e : Here A G0 H0 ρ σ G H) (vp : Vp i ρ) (il : ρ[i]? = some none) (m : ∀ b, H' b = H b ∨ (H0 b = none ∧ G b = none)) : Here A G0 H0 ρ σ G H' := by
  have f := e.env
  have no : ∀ {j : Nat} {s : Sl}, ρ[j]? = some (some s) → (∃ d, s = .val d) ∨ s = .pot := fun {j s} q => by
    by_cases hj : j = i
    · subst hj; rw [il] at q; cases q
    · exact vp j s hj q
  refine ⟨⟨e.st.g, fun b o q => ?_, fun b o q n => ?_, e.st.f, fun b q => ?_⟩, ⟨f.len, f.val, fun j es q => ?_, fun j k b es fs q1 q2 _ _ => ?_, f.arg, fun j a' dx c es q => ?_, f.pot⟩, e.ent⟩
  · rcases m b with z | ⟨_, z⟩
    · rw [z]; exact e.st.h b o q
    · rw [z] at q; cases q
  · rcases m b with z | ⟨z, _⟩
    · rw [z]; exact e.st.k b o q n
    · rw [z] at q; cases q
  · obtain ⟨z1, o, z2, z3⟩ := e.st.p b q
    refine ⟨z1, o, ?_, z3⟩
    rcases m b with z | ⟨z, _⟩
    · rw [z]; exact z2
    · obtain ⟨_, o', ho, _⟩ := e.ent.2 b q
      rw [z] at ho; cases ho
  · rcases no q with ⟨d, z⟩ | z <;> cases z
  · rcases no q1 with ⟨d, z⟩ | z <;> cases z
  · rcases no q with ⟨d, z⟩ | z <;> cases z
end
/-! ### statements while a new value stands at i -/
def Cs (A : Amb) (G0 H0 : Hp) (N : Nd) (G : Hp) (E : Ends) : Prop :=
  (∀ ρ' σ' G' H', N.nx ρ' → Here A G0 H0 ρ' σ' G' H' → Ex G G' → E.nx σ' H') ∧
  ((∀ d v G' H', N.rt d → Rep A.C G' d v → A.St G0 H0 G' H' → E.rt v H') ∧ ∀ d v G' H', N.rn d → Fr A.C G' H' H0 d v → A.St G0 H0 G' H' → E.rt v H') ∧
  (∀ ρ' σ' G' H', N.bk ρ' → Here A G0 H0 ρ' σ' G' H' → Ex G G' → E.bk σ' H') ∧
  (∀ ρ' σ' G' H', N.ct ρ' → Here A G0 H0 ρ' σ' G' H' → Ex G G' → E.ct σ' H')
def DSX (A : Amb) (ρ : Ro) (i : Nat) (d : D) (ts : TS) (N : Nd) : Prop := ∀ G0 H0 σ G H (E : Ends) v, Here A G0 H0 ρ σ G H → σ[i]? = some (some v) → Fr A.C G H H0 d v → Cs A G0 H0 N G E → ts E σ H
section
variable {A : Amb} {ρ : Ro} {te ta tb : TE} {tt : TT} {tl tr : TA} {ts tu tv : TS} {N : Nd} {K : PySem.W.Frag} {i j k : Nat} {d : D} {ds : List D} {R : D → Prop}
theorem Cs.mono {G0 H0 G G2 : Hp} {E : Ends} (c : Cs A G0 H0 N G E) (x : Ex G G2) : Cs A G0 H0 N G2 E :=
  ⟨fun ρ' σ' G' H' n z y => c.1 ρ' σ' G' H' n z (x.trans y), c.2.1, fun ρ' σ' G' H' n z y => c.2.2.1 ρ' σ' G' H' n z (x.trans y), fun ρ' σ' G' H' n z y => c.2.2.2 ρ' σ' G' H' n z (x.trans y)⟩
theorem DS.cs (h : DS A ρ ts N) {G0 H0 G H : Hp} {σ : L2.St} {E : Ends} (e : Here A G0 H0 ρ σ G H) (c : Cs A G0 H0 N G E) : ts E σ H := h G0 H0 σ G H E e c.1 c.2.1 c.2.2.1 c.2.2.2
theorem DS.of_cs (h : ∀ G0 H0 σ G H (E : Ends), Here A G0 H0 ρ σ G H → Cs A G0 H0 N G E → ts E σ H) : DS A ρ ts N := fun G0 H0 σ G H E e k1 k2 k3 k4 => h G0 H0 σ G H E e ⟨k1, k2, k3, k4⟩
theorem Here.bk {G0 H0 G H : Hp} {σ : L2.St} (e : Here A G0 H0 ρ σ G H) : ∀ a, H a = none → H0 a = none := e.st.back fun b z => let ⟨_, o, ho, _⟩ := e.st.p b z; ⟨o, ho⟩
/-- x = a new value -/
theorem ds_setX (il : i < ρ.length) (h : DN A ρ te fun d => DSX A (ρ.set i none) i d tu N) : DS A ρ (tSeq (tAsg te (gName i)) tu) N := DS.of_cs fun G0 H0 σ G H E e c => by
  refine h G0 H0 σ G H _ e fun d v G2 H2 hd rv s => ?_
  exact hd G0 H0 _ G2 H2 E v ((e.step s).drop i (some v)) (List.getElem?_set_self (by rw [e.env.len]; exact il)) (rv.weak e.bk) (c.mono s.g)
theorem dsx_set (ji : j ≠ i) (vp : Vp i ρ) (il : ρ[i]? = some none) (h : DE A (ρ.set i (some (.arg d))) te fun x => DSX A (ρ.set j (some (.val x))) i d tu N) : DSX A ρ i d (tSeq (tAsg te (gName j)) tu) N := fun G0 H0 σ G H E v e hσ fr c => by
  refine h G H σ G H _ (e.look vp il hσ (fr.lo e.has.some'.2 e.ent.some'.1)) fun x u G2 H2 hx ru s => ?_
  exact hx G0 H0 _ G2 H2 E v ((e.step s).set j ru) (by rw [List.getElem?_set_ne ji]; exact hσ) (fr.step e.has.some'.2 s e.ent.some'.1) (c.mono s.g)
theorem dsx_if (vp : Vp i ρ) (il : ρ[i]? = some none) (h : DT A (ρ.set i (some (.arg d))) tt fun b => (b = true → DSX A ρ i d tu N) ∧ (b = false → DSX A ρ i d tv N)) : DSX A ρ i d (tIfS tt tu tv) N := fun G0 H0 σ G H E v e hσ fr c => by
  refine h G H σ G H _ (e.look vp il hσ (fr.lo e.has.some'.2 e.ent.some'.1)) fun b G2 H2 hb s => ?_
  cases b with
  | true => exact hb.1 rfl G0 H0 σ G2 H2 E v (e.step s) hσ (fr.step e.has.some'.2 s e.ent.some'.1) (c.mono s.g)
  | false => exact hb.2 rfl G0 H0 σ G2 H2 E v (e.step s) hσ (fr.step e.has.some'.2 s e.ent.some'.1) (c.mono s.g)
theorem dsx_ifs (vp : Vp i ρ) (il : ρ[i]? = some none) (h : DT A (ρ.set i (some (.arg d))) tt fun b => (b = true → DSX A ρ i d (tSeq tu ts) N) ∧ (b = false → DSX A ρ i d (tSeq tv ts) N)) : DSX A ρ i d (tSeq (tIfS tt tu tv) ts) N := dsx_if (tu := tSeq tu ts) (tv := tSeq tv ts) vp il h
theorem dsx_nexts (h : DSX A ρ i d ts N) : DSX A ρ i d (tSeq tNext ts) N := h
/-- x.append(a new value) -/
theorem dsx_app (vp : Vp i ρ) (il : ρ[i]? = some none) (hz : ds.length < 100000) (h : DN A ρ te fun x => DSX A ρ i (.lst (ds ++ [x])) tu N) : DSX A ρ i (.lst ds) (tSeq (tDrop (tBM K "list" rAppend (tVar i) (tCons te tNil))) tu) N := fun G0 H0 σ G H E v e hσ fr c => by
  cases fr with
  | leaf l _ => cases l
  | @lst _ a vs _ h1 h2 h3 rl =>
    refine ⟨.ref a, hσ, .inl ⟨rfl, vs, SqL.of h3⟩, ?_⟩
    refine h G0 H0 σ G H _ e fun x u G2 H2 hx ru s => ?_
    obtain ⟨g2, ha⟩ := fr_l (P := A.P) e.ent.some'.1 s h1 h2 h3
    have nn : upd H0 a (.lst []) a ≠ none := by rw [upd_same]; exact nofun
    have rl2 := rl.step e.has.some'.2 s (upd_nn e.ent.some'.1)
    have ru2 : Fr A.C G2 H2 (upd H0 a (.lst [])) x u := ru.weak fun b z => by
      rw [upd_ne (fun y => by subst y; rw [h3] at z; cases z)]
      exact e.bk b z
    refine ⟨a, vs, u, rfl, rfl, ha, Nat.lt_of_lt_of_le (by rw [rl.len]; exact hz) (show 100000 ≤ sizeLine by decide), ?_⟩
    refine hx G0 H0 σ G2 _ E (.ref a) ((e.step s).mutX vp il fun b => ?_) hσ (.lst h1 g2 upd_same ((rl2.snoc ru2).upd ha nn)) (c.mono s.g)
    by_cases hb : b = a
    · subst hb; exact .inr ⟨h1, g2⟩
    · exact .inl (upd_ne hb)
/-- a pair of a new list and a leaf -/
def Pr (d : D) : Prop := ∃ (es : List D) (x : D), d = .tup [.lst es, x] ∧ es.length ≤ 1000
/-- for x, y in new list: x.append(c) -/
theorem loop_app {G0 H0 G H : Hp} {σ : L2.St} {a : Addr} {vs : List V} {c : V} {E : Ends} (jk : j ≠ k) (jl : j < ρ.length) (e : Here A G0 H0 ρ σ G H) (vp : Vp i ρ) (il : ρ[i]? = some none) (h1 : H0 a = none) (g1 : G a = none) (h3 : H a = some (.lst vs))
    (rl : FrL A.C G H (upd H0 a (.lst [])) ds vs) (hz : ds.length ≤ 1000) (hp : ∀ d ∈ ds, Pr d) (q : ∀ σ' H', Here A G0 H0 ((ρ.set j none).set k none) σ' G H' → E.nx σ' H') :
    ∃ W : Nat → Nat → L2.St → Hp → Prop, (∃ m, W 0 m σ H) ∧ ∀ t m σ' H', W t m σ' H' →
      ((Itl K a).stop t H' ∧ E.nx σ' H') ∨ ((Itl K a).go t H' ∧ ∃ Nx : L2.St → Hp → Prop, (∀ σ'' H'', Nx σ'' H'' → ∃ m', m' < m ∧ W (t + 1) m' σ'' H'') ∧ ∀ x H'', (Itl K a).yld t H' x H'' →
        gTup K 2 (gCons (gName j) (gCons (gName k) gNil)) x σ' H'' fun σ2 H2 => tDrop (tBM K "list" rAppend (tVar j) (tCons (tC c) tNil)) { E with nx := Nx, ct := Nx, bk := E.nx } σ2 H2) := by
  let J : Nat → L2.St → Hp → Prop := fun t σ' H' => (σ' = σ ∨ ∃ x y, σ' = (σ.set j x).set k y) ∧ ∀ b, H' b = H b ∨ (b ≠ a ∧ H0 b = none ∧ G b = none ∧ ∃ us ws, H b = some (.lst us) ∧ H' b = some (.lst ws) ∧ ws.length ≤ us.length + t)
  refine ⟨fun t m σ' H' => m = ds.length - t ∧ t ≤ ds.length ∧ J t σ' H', ⟨_, rfl, Nat.zero_le _, .inl rfl, fun b => .inl rfl⟩, ?_⟩
  rintro t m σ' H' ⟨rfl, ht, hs, hm⟩
  have ha : H' a = some (.lst vs) := by
    rcases hm a with z | ⟨z, _⟩
    · rw [z]; exact h3
    · exact absurd rfl z
  rcases Nat.lt_or_ge t ds.length with hlt | hge
  · obtain ⟨v, hv, fr⟩ := rl.get (List.getElem?_eq_getElem hlt)
    obtain ⟨es, x, hd, hes⟩ := hp _ (List.getElem_mem hlt)
    rw [hd] at fr
    refine .inr ⟨⟨_, _, SqL.of ha, hv⟩, fun σ2 H2 => J (t + 1) σ2 H2, fun σ2 H2 hJ => ⟨_, by omega, rfl, by omega, hJ⟩, fun y H2 hy => ?_⟩
    obtain ⟨rfl, hy⟩ := hy
    have := hy _ (SqL.of ha)
    rw [hv] at this
    cases this
    cases fr with
    | leaf l _ => cases l
    | @tup _ tp ws _ ht2 rw =>
      cases rw with
      | @cons _ _ w1 _ ws' r1 rw =>
        cases rw with
        | @cons _ _ w2 _ ws'' r2 rw =>
          cases rw
          have htp : H2 tp = some (.tup [w1, w2]) := by
            rcases hm tp with z | ⟨_, _, _, us, ws, z, _⟩
            · rw [z]; exact ht2
            · rw [ht2] at z; cases z
          cases r1 with
          | leaf l _ => cases l
          | @lst _ l us _ l1 l2 l3 rl2 =>
            have la : l ≠ a := fun z => by subst z; rw [upd_same] at l1; cases l1
            have l0 : H0 l = none := by rw [upd_ne la] at l1; exact l1
            obtain ⟨xs, hx, hxl⟩ : ∃ xs, H2 l = some (.lst xs) ∧ xs.length ≤ us.length + t := by
              rcases hm l with z | ⟨_, _, _, us2, ws, z, z2, z3⟩
              · exact ⟨us, by rw [z]; exact l3, by omega⟩
              · rw [l3] at z
                cases z
                exact ⟨ws, z2, z3⟩
            refine ⟨tp, _, rfl, SqT.of htp, rfl, _, _, rfl, _, _, rfl, rfl, ?_⟩
            have sl : σ'.length = σ.length := by
              rcases hs with z | ⟨x, y, z⟩ <;> rw [z]
              rw [List.length_set, List.length_set]
            refine ⟨.ref l, ?_, .inl ⟨rfl, xs, SqL.of hx⟩, l, xs, c, rfl, rfl, hx, ?_, ?_, ?_⟩
            · rw [List.getElem?_set_ne (Ne.symm jk), List.getElem?_set_self (by rw [sl, e.env.len]; exact jl)]
            · have := rl2.len
              exact Nat.lt_of_lt_of_le (show xs.length < 100000 by omega) (show 100000 ≤ sizeLine by decide)
            · refine .inr ⟨some (.ref l), some w2, ?_⟩
              rcases hs with z | ⟨x, y, z⟩
              · rw [z]
              · rw [z, List.set_comm _ _ (Ne.symm jk), List.set_set, List.set_set]
            · intro b
              by_cases hb : b = l
              · subst hb
                exact .inr ⟨la, l0, l2, us, _, l3, upd_same, by rw [List.length_append]; show _ + 1 ≤ _; omega⟩
              · rw [upd_ne hb]
                rcases hm b with z | ⟨z1, z2, z3, us2, ws, z4, z5, z6⟩
                · exact .inl z
                · exact .inr ⟨z1, z2, z3, us2, ws, z4, z5, by omega⟩
  · refine .inl ⟨⟨vs, SqL.of ha, by rw [rl.len]; exact hge⟩, q σ' H' ?_⟩
    have e2 := e.mutX (H' := H') vp il fun b => (hm b).imp id fun z => ⟨z.2.1, z.2.2.1⟩
    rcases hs with z | ⟨x, y, z⟩
    · rw [z]; exact (e2.dropI j).dropI k
    · rw [z]; exact (e2.drop j x).drop k y
theorem dsx_for {c : V} (jk : j ≠ k) (jl : j < ρ.length) (vp : Vp i ρ) (il : ρ[i]? = some none) (hz : ds.length ≤ 1000) (hp : ∀ d ∈ ds, Pr d) (h : DS A ((ρ.set j none).set k none) tu N) :
    DSX A ρ i (.lst ds) (tSeq (tFor (iList K (tVar i)) (gTup K 2 (gCons (gName j) (gCons (gName k) gNil))) (tDrop (tBM K "list" rAppend (tVar j) (tCons (tC c) tNil)))) tu) N := fun G0 H0 σ G H E v e hσ fr cs => by
  cases fr with
  | leaf l _ => cases l
  | @lst _ a vs _ h1 h2 h3 rl =>
    exact ⟨.ref a, hσ, a, rfl, ⟨vs, SqL.of h3⟩, loop_app (E := { E with nx := tu E }) jk jl e vp il h1 h2 h3 rl hz hp fun σ' H' e' => h.cs e' cs⟩
theorem ds_forN {c : V} (jk : j ≠ k) (jl : j < ρ.length) (vp : Vp i ρ) (il : ρ[i]? = some none) (h : DN A ρ te fun d => ∃ ds, d = .lst ds ∧ ds.length ≤ 1000 ∧ (∀ d ∈ ds, Pr d) ∧ DS A ((ρ.set j none).set k none) tu N) :
    DS A ρ (tSeq (tFor (iList K te) (gTup K 2 (gCons (gName j) (gCons (gName k) gNil))) (tDrop (tBM K "list" rAppend (tVar j) (tCons (tC c) tNil)))) tu) N := DS.of_cs fun G0 H0 σ G H E e cs => by
  refine h G0 H0 σ G H _ e fun d v G2 H2 hd fr s => ?_
  obtain ⟨ds, rfl, hz, hp, h⟩ := hd
  have fr := fr.weak e.bk
  cases fr with
  | leaf l _ => cases l
  | @lst _ a vs _ h1 h2 h3 rl =>
    exact ⟨a, rfl, ⟨vs, SqL.of h3⟩, loop_app (E := { E with nx := tu E }) jk jl (e.step s) vp il h1 h2 h3 rl hz hp fun σ' H' e' => h.cs e' (cs.mono s.g)⟩
/-- (a new list).append(c) -/
theorem ds_appN {c : V} (vp : Vp i ρ) (il : ρ[i]? = some none) (h : DN A ρ te fun d => ∃ ds, d = .lst ds ∧ ds.length ≤ 1000 ∧ DS A ρ tu N) : DS A ρ (tSeq (tDrop (tBM K "list" rAppend te (tCons (tC c) tNil))) tu) N := DS.of_cs fun G0 H0 σ G H E e cs => by
  refine h G0 H0 σ G H _ e fun d v G2 H2 hd fr s => ?_
  obtain ⟨ds, rfl, hz, h⟩ := hd
  have fr := fr.weak e.bk
  cases fr with
  | leaf l _ => cases l
  | @lst _ a vs _ h1 h2 h3 rl =>
    refine ⟨.inl ⟨rfl, vs, SqL.of h3⟩, a, vs, c, rfl, rfl, h3, ?_, ?_⟩
    · have := rl.len
      exact Nat.lt_of_lt_of_le (show vs.length < 100000 by omega) (show 100000 ≤ sizeLine by decide)
    · refine h.cs ((e.step s).mutX vp il fun b => ?_) (cs.mono s.g)
      by_cases hb : b = a
      · subst hb; exact .inr ⟨h1, h2⟩
      · exact .inl (upd_ne hb)
/-- (a new tuple)[n] -/
theorem dn_ix {n : Nat} (h : DN A ρ te fun x => ∃ ds, x = .tup ds ∧ ∃ d, ds[n]? = some d ∧ R d) : DN A ρ (tOp (rIx K) te (tC (.int (n : Int)))) R := fun G0 H0 σ G H Q e q => by
  refine h G0 H0 σ G H _ e fun d v G2 H2 hd fr s => ?_
  obtain ⟨ds, rfl, d, hn, hr⟩ := hd
  cases fr with
  | leaf l _ => cases l
  | @tup _ a vs _ h3 rl =>
    obtain ⟨u, hu, fu⟩ := rl.get hn
    refine .inr (.inl ⟨a, vs, (n : Int), u, rfl, rfl, SqT.of h3, ?_, q d u G2 H2 hr fu s⟩)
    unfold atI
    rw [rl.len, ixN_of (List.getElem?_eq_some_iff.mp hn).1]
    exact hu
end
end GD
namespace KM
/-! ### fractions -/
def gz (p q : Int) : Int := ((Nat.gcd p.natAbs q.natAbs : Nat) : Int)
theorem gz_pos {p q : Int} (h : q ≠ 0) : 0 < gz p q := by
  unfold gz
  have : 0 < Nat.gcd p.natAbs q.natAbs := Nat.gcd_pos_of_pos_right _ (by omega)
  omega
theorem gz_dvd_l (p q : Int) : gz p q ∣ p := by
  unfold gz
  exact Int.ofNat_dvd_left.mpr (Nat.gcd_dvd_left _ _)
theorem gz_dvd_r (p q : Int) : gz p q ∣ q := by
  unfold gz
  exact Int.ofNat_dvd_left.mpr (Nat.gcd_dvd_right _ _)
theorem gz_neg (p q : Int) : gz (-p) (-q) = gz p q := by unfold gz; simp
theorem gz_le {p q : Int} (h : q ≠ 0) : (gz p q).natAbs ≤ q.natAbs := by
  unfold gz
  simp only [Int.natAbs_natCast]
  exact Nat.le_of_dvd (by omega) (Nat.gcd_dvd_right _ _)
theorem fdiv_of_dvd {a b : Int} (h : b ∣ a) : a.fdiv b = a / b := by
  obtain ⟨c, rfl⟩ := h
  by_cases hb : b = 0
  · subst hb; simp
  · rw [Int.mul_fdiv_cancel_left _ hb, Int.mul_ediv_cancel_left _ hb]

theorem num_pos {p q : Int} (h : 0 < q) : (Rat.divInt p q).num = p / gz p q := by
  rw [Rat.num_divInt, Int.sign_eq_one_of_pos h, Int.one_mul]
  unfold gz Int.gcd
  rw [Nat.gcd_comm]
theorem den_pos {p q : Int} (h : 0 < q) : ((Rat.divInt p q).den : Int) = q / gz p q := by
  rw [Rat.den_divInt, if_neg (by omega)]
  unfold gz Int.gcd
  rw [Nat.gcd_comm, Int.natCast_ediv, Int.natAbs_of_nonneg (by omega)]
theorem num_neg {p q : Int} (h : q < 0) : (Rat.divInt p q).num = (-p) / gz p q := by
  have := num_pos (p := -p) (q := -q) (by omega)
  rw [Rat.neg_divInt_neg, gz_neg] at this
  exact this
theorem den_neg {p q : Int} (h : q < 0) : ((Rat.divInt p q).den : Int) = (-q) / gz p q := by
  have := den_pos (p := -p) (q := -q) (by omega)
  rw [Rat.neg_divInt_neg, gz_neg] at this
  exact this
/-- what __init__ reckons -/
def sg (p q : Int) : Int := if q < 0 then - gz p q else gz p q
theorem init_top {p q : Int} (h : q ≠ 0) : p.fdiv (sg p q) = (Rat.divInt p q).num := by
  unfold sg
  split
  · rename_i hq
    rw [num_neg hq]
    obtain ⟨c, hc⟩ := gz_dvd_l p q
    have g0 := gz_pos (p := p) h
    generalize gz p q = g at *
    subst hc
    rw [show g * c = (-g) * (-c) by simp [Int.neg_mul_neg], Int.mul_fdiv_cancel_left _ (by omega), show -(-g * -c) = g * (-c) by rw [Int.neg_mul_neg, Int.mul_neg], Int.mul_ediv_cancel_left _ (by omega)]
  · rename_i hq
    rw [num_pos (by omega), fdiv_of_dvd (gz_dvd_l p q)]
theorem init_bot {p q : Int} (h : q ≠ 0) : q.fdiv (sg p q) = ((Rat.divInt p q).den : Int) := by
  unfold sg
  split
  · rename_i hq
    rw [den_neg hq]
    obtain ⟨c, hc⟩ := gz_dvd_r p q
    have g0 := gz_pos (p := p) h
    generalize gz p q = g at *
    subst hc
    rw [show g * c = (-g) * (-c) by simp [Int.neg_mul_neg], Int.mul_fdiv_cancel_left _ (by omega), show -(-g * -c) = g * (-c) by rw [Int.neg_mul_neg, Int.mul_neg], Int.mul_ediv_cancel_left _ (by omega)]
  · rename_i hq
    rw [den_pos (by omega), fdiv_of_dvd (gz_dvd_r p q)]
theorem sg_ne {p q : Int} (h : q ≠ 0) : sg p q ≠ 0 := by
  have := gz_pos (p := p) h
  unfold sg
  split <;> omega
theorem sg_abs {p q : Int} (h : q ≠ 0) : (sg p q).natAbs ≤ q.natAbs := by
  have := gz_le (p := p) h
  unfold sg
  split
  · rw [Int.natAbs_neg]; exact this
  · exact this

/-! ### sizes -/
theorem num_le (p q : Int) : (Rat.divInt p q).num.natAbs ≤ p.natAbs := by
  by_cases hq : q = 0
  · subst hq; simp
  · rw [← init_top hq]
    have hd : sg p q ∣ p := by
      unfold sg; split
      · exact Int.neg_dvd.mpr (gz_dvd_l p q)
      · exact gz_dvd_l p q
    rw [fdiv_of_dvd hd]
    exact Int.natAbs_ediv_le_natAbs _ _
theorem den_le {p q : Int} (hq : q ≠ 0) : (Rat.divInt p q).den ≤ q.natAbs := by
  have e := init_bot (p := p) hq
  have hd : sg p q ∣ q := by
    unfold sg; split
    · exact Int.neg_dvd.mpr (gz_dvd_r p q)
    · exact gz_dvd_r p q
  rw [fdiv_of_dvd hd] at e
  have := Int.natAbs_ediv_le_natAbs q (sg p q)
  rw [e] at this
  simpa using this
structure Sz (n : Nat) (r : Rat) : Prop where
  num : r.num.natAbs < 2 ^ n
  den : ((r.den : Int)).natAbs < 2 ^ n
theorem Sz.mono {n m : Nat} {r : Rat} (h : Sz n r) (e : n ≤ m) : Sz m r :=
  have := Nat.pow_le_pow_right (show 0 < 2 by decide) e
  ⟨Nat.lt_of_lt_of_le h.num this, Nat.lt_of_lt_of_le h.den this⟩
theorem Sz.low {n : Nat} {p q : Int} (hp : p.natAbs < 2 ^ n) (hq : q.natAbs < 2 ^ n) (h0 : q ≠ 0) : Sz n (Rat.divInt p q) :=
  ⟨Nat.lt_of_le_of_lt (num_le p q) hp, Nat.lt_of_le_of_lt (by simpa using den_le h0) hq⟩
theorem mul_lt {i j : Int} {a b : Nat} (ha : i.natAbs < 2 ^ a) (hb : j.natAbs < 2 ^ b) : (i * j).natAbs < 2 ^ (a + b) := by
  rw [Int.natAbs_mul, Nat.pow_add]
  exact Nat.mul_lt_mul'' ha hb
theorem add_lt {i j : Int} {a : Nat} (ha : i.natAbs < 2 ^ a) (hb : j.natAbs < 2 ^ a) : (i + j).natAbs < 2 ^ (a + 1) := by
  have := Int.natAbs_add_le i j
  rw [Nat.pow_succ]
  omega
theorem sub_lt {i j : Int} {a : Nat} (ha : i.natAbs < 2 ^ a) (hb : j.natAbs < 2 ^ a) : (i - j).natAbs < 2 ^ (a + 1) := by
  have := Int.natAbs_sub_le i j
  rw [Nat.pow_succ]
  omega
theorem lt_more {i : Int} {a b : Nat} (h : i.natAbs < 2 ^ a) (e : a ≤ b) : i.natAbs < 2 ^ b :=
  Nat.lt_of_lt_of_le h (Nat.pow_le_pow_right (by decide) e)

/-! ### the operations -/
theorem dz (r : Rat) : (r.den : Int) ≠ 0 := by have := r.den_pos; omega
theorem dpos (r : Rat) : 0 < (r.den : Int) := by have := r.den_pos; omega
theorem self_div (r : Rat) : Rat.divInt r.num r.den = r := Rat.num_divInt_den r
theorem add_eq (r s : Rat) : Rat.divInt (r.num * s.den + s.num * r.den) (r.den * s.den) = r + s := by
  have h := Rat.divInt_add_divInt r.num s.num (dz r) (dz s)
  rw [self_div, self_div] at h
  exact h.symm
theorem sub_eq (r s : Rat) : Rat.divInt (r.num * s.den - s.num * r.den) (r.den * s.den) = r - s := by
  have h := Rat.divInt_sub_divInt r.num s.num (dz r) (dz s)
  rw [self_div, self_div] at h
  exact h.symm
theorem mul_eq (r s : Rat) : Rat.divInt (r.num * s.num) (r.den * s.den) = r * s := by
  have h := Rat.divInt_mul_divInt r.num s.num (d₁ := r.den) (d₂ := s.den)
  rw [self_div, self_div] at h
  exact h.symm
theorem neg_eq (r : Rat) : Rat.divInt (-r.num) r.den = -r := by
  have h := Rat.neg_divInt r.num r.den
  rw [self_div] at h
  exact h.symm
theorem over_eq (r s : Rat) : Rat.divInt (r.num * s.den) (r.den * s.num) = r / s := by
  have h := Rat.divInt_mul_divInt r.num s.den (d₁ := r.den) (d₂ := s.num)
  have e : Rat.divInt s.den s.num = s⁻¹ := by
    have := Rat.inv_divInt s.num s.den
    rw [self_div] at this
    exact this.symm
  rw [self_div, e] at h
  rw [Rat.div_def]
  exact h.symm
theorem cop_num {n : Int} {d : Nat} (h : d ≠ 0) (c : Nat.gcd n.natAbs d = 1) : (Rat.divInt n d).num = n ∧ (Rat.divInt n d).den = d := by
  have := Rat.mk_eq_divInt (num := n) (den := d) (nz := h) (c := c)
  rw [← this]
  exact ⟨rfl, rfl⟩
theorem abs_part (r : Rat) : (Rat.divInt (r.num.natAbs : Int) r.den).num = (r.num.natAbs : Int) ∧ (Rat.divInt (r.num.natAbs : Int) r.den).den = r.den :=
  cop_num r.den_nz (by simpa using r.reduced)
theorem eq_iff (r s : Rat) : r = s ↔ r.num = s.num ∧ (r.den : Int) = s.den := by
  constructor
  · rintro rfl; exact ⟨rfl, rfl⟩
  · rintro ⟨h1, h2⟩
    exact Rat.ext h1 (by omega)
theorem lt_iff (r s : Rat) : r < s ↔ r.num * s.den < s.num * r.den := Rat.lt_iff r s
theorem le_iff (r s : Rat) : r ≤ s ↔ r.num * s.den ≤ s.num * r.den := Rat.le_iff r s
theorem of_int (n : Int) : Rat.divInt n 1 = (n : Rat) := by
  have : (n : Rat) = Rat.divInt (n : Rat).num (n : Rat).den := (self_div _).symm
  rw [this]; rfl
end KM
namespace K13
open PySem L2 GX GD KM
open Evl (Ex)
def top (i : Nat) : Stmt := PySem.Challenge.pw_heardquotes_k13_whole_programs_made.main.body.getD i (.Pass ⟨0, 0, 0, 0⟩)
/-- what the top has written of the classes and of built-in names -/
structure Txt (K : PySem.W.Frag) (mg : Str → Option Value) (C : CT) : Prop where
  fR : (C 0).2 = [("_top" : Str), ("_bottom" : Str)]
  fP : (C 1).2 = [("_unknowns" : Str), ("_rows" : Str)]
  kR : KC K (C 0).1
  kP : KC K (C 1).1
  nT : NoAttr K (C 0).1 "_top"
  nB : NoAttr K (C 0).1 "_bottom"
  nU : NoAttr K (C 1).1 "_unknowns"
  nW : NoAttr K (C 1).1 "_rows"
  mgRatio : mg "Ratio" = some (.ref (C 0).1)
  mgProgram : mg "Program" = some (.ref (C 1).1)
  isinstance : mg "isinstance" = none
  int : mg "int" = none
  bool : mg "bool" = none
  list : mg "list" = none
  tuple : mg "tuple" = none
  len : mg "len" = none
  repr : mg "repr" = none
  all : mg "all" = none
  any : mg "any" = none
  abs : mg "abs" = none
  max : mg "max" = none
  min : mg "min" = none
  divmod : mg "divmod" = none
  range : mg "range" = none
  zip : mg "zip" = none
  enumerate : mg "enumerate" = none
  gcd : mg "gcd" = some (.builtin "math.gcd")
  kRi : PySem.W.kitOne K (.ref (C 0).1) (.type "int") = some false
  kIR : PySem.W.kitOne K (.type "int") (.ref (C 0).1) = some false
  kRR : PySem.W.kitOne K (.ref (C 0).1) (.ref (C 0).1) = some true
  kPP : PySem.W.kitOne K (.ref (C 1).1) (.ref (C 1).1) = some true
  kXP : ∀ x ∈ ["int", "tuple", "list", "NoneType", "str"], PySem.W.kitOne K (.type x) (.ref (C 1).1) = some false
/-- a def as it stands, with its promise -/
structure Df (P : Program) (w : World) (K : PySem.W.Frag) (mg : Str → Option Value) (base : Heap) (n : Nat) (x : Str) (ps : List Str) (sp : Sp) where
  f : Addr
  fd : FuncData
  F : FnOk P w K mg base CX0 n f fd ps sp
  m : mg x = some (.ref f)
  kp : PySem.W.keepIn K (.ref f) = true
  b : Binds K fd ps []
theorem pe_df {X : Cx} {n j : Nat} {x : Str} {ps : List Str} {sp : Sp} {p pos : Pos} {e : Expr} {es : List Expr} {t : TA} (D : Df X.prog X.w X.K X.mg X.base n x ps sp) (hr : Room j X.A) (ha : PA X (e :: es) t) (hj : n ≤ j := by decide) (hg : Gl X x := by rfl)
    (hdb : (x == ("__debug__" : Str)) = false := by decide) (he : starEach (e :: es) X.env = (false, eval e X.env) :: starEach es X.env := by rfl)
    (hpl : (backTo pos (starEach es X.env)).any (·.1) = false := by rfl) : PE X (.Call (.Name x p) (e :: es) [] pos) (tCall sp [] E0 t) :=
  pe_call D.F (hr.mono hj) hg D.m D.kp D.b .nil pass0 ha hdb he hpl
/-- the same where no repr is under way -/
structure Dg (P : Program) (w : World) (K : PySem.W.Frag) (mg : Str → Option Value) (base : Heap) (n : Nat) (x : Str) (ps : List Str) (sp : Sp) where
  f : Addr
  fd : FuncData
  F : FnG P w K mg base CX0 n f fd ps sp
  m : mg x = some (.ref f)
  kp : PySem.W.keepIn K (.ref f) = true
  b : Binds K fd ps []
theorem pe_dg {X : Cx} {n j : Nat} {x : Str} {ps : List Str} {sp : Sp} {p pos : Pos} {e : Expr} {es : List Expr} {t : TA} (D : Dg X.prog X.w X.K X.mg X.base n x ps sp) (gd : X.A.guards = some []) (hr : Room j X.A) (ha : PA X (e :: es) t) (hj : n ≤ j := by decide) (hg : Gl X x := by rfl)
    (hdb : (x == ("__debug__" : Str)) = false := by decide) (he : starEach (e :: es) X.env = (false, eval e X.env) :: starEach es X.env := by rfl)
    (hpl : (backTo pos (starEach es X.env)).any (·.1) = false := by rfl) : PE X (.Call (.Name x p) (e :: es) [] pos) (tCall sp [] E0 t) :=
  pe_callG D.F gd (hr.mono hj) hg D.m D.kp D.b .nil pass0 ha hdb he hpl
theorem no1 {p : Prop} (h : (!true) = true) : p := by cases h
theorem no2 {p : Prop} (h : false = true) : p := by cases h
theorem no3 {p : Prop} (h : true = false) : p := by cases h
theorem no4 {p : Prop} (h : (!false) = false) : p := by cases h
/-! the rules of the layer, the frame told -/
section
variable {X : Cx}
theorem call_tuple_ofK (K : PySem.W.Frag) (h : X.K = K) : CallR X (.type "tuple") (fun xs H Q => ∃ p ys, xs = [.ref p] ∧ ((SqL K H p ys ∧ ∀ l, H l = none → Q (.ref l) (upd H l (.tup ys))) ∨ (SqT K H p ys ∧ Q (.ref p) H))) := by subst h; exact call_tuple_of
theorem call_list_ofK (K : PySem.W.Frag) (h : X.K = K) : CallR X (.type "list") (fun xs H Q => ∃ p ys, xs = [.ref p] ∧ (SqL K H p ys ∨ SqT K H p ys) ∧ ∀ l, H l = none → Q (.ref l) (upd H l (.lst ys))) := by subst h; exact call_list_of
theorem call_isiK (K : PySem.W.Frag) (h : X.K = K) : CallR X (.builtin "isinstance") (rIsi K) := by subst h; exact call_isi
theorem ix_seqK (K : PySem.W.Frag) (h : X.K = K) : IxR X (rIx K) := by subst h; exact ix_seq
theorem call_len_seqK (K : PySem.W.Frag) (h : X.K = K) : CallR X (.builtin "len") (fun xs H Q => ∃ p ys, xs = [.ref p] ∧ (SqL K H p ys ∨ SqT K H p ys) ∧ Q (.int ys.length) H) := by subst h; exact call_len_seq
theorem pe_fldK {e : Expr} {f : Str} {pos : Pos} {ta : TE} (K : PySem.W.Frag) (h : X.K = K) (he : PE X e ta) (hb : attributeBase e f X.env (eval e X.env) = eval e X.env) : PE X (.Attribute e f pos) (tFld K ta f) := by subst h; exact pe_fld he hb
end
/-! ### numbers as data -/
def rt (r : Rat) : D := .ins 0 [.int r.num, .int (r.den : Int)]
/-- a NUMBER: an int or a Ratio -/
inductive Nm : D → Prop
  | int (i : Int) : Nm (.int i)
  | rt (r : Rat) : Nm (rt r)
def vl : D → Rat
  | .int i => (i : Rat)
  | .ins _ [.int p, .int q] => Rat.divInt p q
  | _ => 0
theorem vl_rt (r : Rat) : vl (rt r) = r := self_div r
theorem Nm.leaf {d : D} (h : Nm d) : leaf d = true := by cases h <;> rfl
theorem map_leaf {rs : List Rat} : ∀ d ∈ rs.map rt, leaf d = true := fun d hd => by
  obtain ⟨r, _, rfl⟩ := List.mem_map.mp hd
  rfl
def isI : D → Bool
  | .int _ => true
  | _ => false
section
variable {P : Program} {w : World} {K : PySem.W.Frag} {mg : Str → Option Value} {base : Heap} {C : CT} {A : Amb} {ρ : Ro} {te : TE} {R : D → Prop}
theorem kc0 (T : Txt K mg C) {d : D} (h : Nm d) : ∀ k ds, d = .ins k ds → KC K (C k).1 := fun k ds e => by
  cases h with
  | int i => cases e
  | rt r => cases e; exact T.kR
/-! ### basics -/
abbrev sIsInteger : Stmt := top 3
abbrev NsIsInteger : List Str := ["value"]
theorem csIsInteger : FnScope NsIsInteger ["value"] (defScope sIsInteger) := ⟨rfl, rfl, rfl, by decide +kernel, rfl, by decide +kernel, by decide +kernel⟩

def spIsI (C : CT) : Sp := spD C (fun ds => ∃ d, ds = [d] ∧ Nm d) fun ds e => ∃ d, ds = [d] ∧ e = .bl (isI d)
theorem ok_isI (T : Txt K mg C) {f : Addr} {fd : FuncData} (F : Fun K "is_integer" "is_integer" sIsInteger f fd) : FnOk P w K mg base CX0 1 f fd ["value"] (spIsI C) := by
  refine F.ok csIsInteger (spD_len fun ds h => by obtain ⟨d, rfl, _⟩ := h; rfl) (fun cdv A outer s H vs Q E hr h => ⟨_, (pss_one (ps_ret (pe_and (pe_callB call_isi (by rfl) T.isinstance (by decide +kernel) (pa_cons (pv 0) (pa_cons (pe_bltn (v := .ty "int") (by rfl) T.int (by decide +kernel) rfl) pa_nil))) (pe_one (pe_not (pe_callB call_isi (by rfl) T.isinstance (by decide +kernel) (pa_cons (pv 0) (pa_cons (pe_bltn (v := .ty "bool") (by rfl) T.bool (by decide +kernel) rfl) pa_nil)))))))), spD_run h fun ds hp => ?_⟩)
  obtain ⟨d, rfl, hd⟩ := hp
  cases hd with
  | int i =>
    refine ds_ret (de_andV (w_isi (.ty _) (w_var rfl ⟨nofun, true, kit_ty (by decide +kernel), true, rfl, nofun, fun _ => ?_⟩)))
    exact de_notV (w_isi (.ty _) (w_var rfl ⟨nofun, false, kit_ty (by decide +kernel), false, rfl, _, rfl, rfl⟩))
  | rt r => exact ds_ret (de_andV (w_isi (.ty _) (w_var rfl ⟨kc0 T (.rt r), false, T.kRi, false, rfl, fun _ => ⟨_, rfl, rfl⟩, nofun⟩)))
end
end K13
namespace K13
open PySem L2 GX GD KM
open Evl (Ex)
theorem log_of {j : Int} {n : Nat} (h : j.natAbs < 2 ^ n) (h0 : 0 < n) (hn : n ≤ 9000) : j.natAbs.log2 < 9000 :=
  Nat.lt_of_lt_of_le (PySem.Flt.log2_lt_of h0 h) hn
theorem op_fdivNW {X : Cx} : OpR X (binaryOp .FloorDiv) (rI (fun _ j => j ≠ 0 ∧ j.natAbs.log2 < 9000) fun i j => .int (i.fdiv j)) :=
  opI fun _ _ _ _ _ _ _ hc q => PyProof.Rows.floordiv_int hc.1 q (.inl (PyProof.noPylong_of_log2 hc.2))
/-- a method, a property of the c-th class -/
structure Mt (P : Program) (w : World) (K : PySem.W.Frag) (mg : Str → Option Value) (base : Heap) (C : CT) (c n : Nat) (x : Str) (ps : List Str) (sp : Sp) where
  f : Addr
  fd : FuncData
  F : FnOk P w K mg base CX0 n f fd ps sp
  m : Meth K (C c).1 x f
  b : Binds K fd ps []
  cl : Cls K (C c).1
structure Pr (P : Program) (w : World) (K : PySem.W.Frag) (mg : Str → Option Value) (base : Heap) (C : CT) (c : Nat) (x : Str) (sp : Sp) where
  p : Addr
  g : Addr
  fd : FuncData
  F : FnOk P w K mg base CX0 1 g fd ["self"] sp
  o : PropOf K (C c).1 x p g
  b : Binds K fd ["self"] []
  cl : Cls K (C c).1
theorem pe_pr {X : Cx} {C : CT} {c j : Nat} {x : Str} {sp : Sp} {e : Expr} {te : TE} {pos : Pos} (Z : Pr X.prog X.w X.K X.mg X.base C c x sp) (hr : Room j X.A) (he : PE X e te) (hj : 2 ≤ j := by decide) (hab : attributeBase e x X.env (eval e X.env) = eval e X.env := by rfl) : PE X (.Attribute e x pos) (tProp (C c).1 sp [] E0 te) :=
  pe_prop he Z.cl Z.o Z.F (hr.mono hj) Z.b .nil pass0 hab
theorem pe_mt {X : Cx} {C : CT} {c n j : Nat} {x : Str} {ps : List Str} {sp : Sp} {pl : Sem Bool} {e e1 : Expr} {es : List Expr} {te : TE} {t : TA} {apos pos : Pos} (Z : Mt X.prog X.w X.K X.mg X.base C c n x ps sp) (hr : Room j X.A) (he : PE X e te) (ha : PA X (e1 :: es) t) (hj : n ≤ j := by decide)
    (hst : starEach (e1 :: es) X.env = (false, eval e1 X.env) :: starEach es X.env := by rfl) (hpl : (backTo pos (starEach es X.env)).any (·.1) = false := by rfl)
    (ht : eval (.Call (.Attribute e x apos) (e1 :: es) [] pos) X.env = (do
      let ov ← eval e X.env
      standAt apos.atName
      let (f, first) ← holding [ov] (getMethod ov x pl)
      callWith pos f first (backTo pos (starEach (e1 :: es) X.env)) (backToKw pos (keywordEach [] X.env))) := by rfl) : PE X (.Call (.Attribute e x apos) (e1 :: es) [] pos) (tMeth (C c).1 x sp [] E0 te t) :=
  pe_meth (pl := pl) he Z.cl Z.m Z.F (hr.mono hj) Z.b .nil pass0 ha hst hpl ht
theorem pe_mt0 {X : Cx} {C : CT} {c n j : Nat} {x : Str} {ps : List Str} {sp : Sp} {pl : Sem Bool} {e : Expr} {te : TE} {apos pos : Pos} (Z : Mt X.prog X.w X.K X.mg X.base C c n x ps sp) (hr : Room j X.A) (he : PE X e te) (hj : n ≤ j := by decide)
    (ht : eval (.Call (.Attribute e x apos) [] [] pos) X.env = (do
      let ov ← eval e X.env
      standAt apos.atName
      let (f, first) ← holding [ov] (getMethod ov x pl)
      callWith pos f first (backTo pos (starEach [] X.env)) (backToKw pos (keywordEach [] X.env))) := by rfl) : PE X (.Call (.Attribute e x apos) [] [] pos) (tMeth (C c).1 x sp [] E0 te tNil) :=
  pe_meth0 (pl := pl) he Z.cl Z.m Z.F (hr.mono hj) Z.b .nil pass0 ht
def preR (ds : List D) : Prop := ∃ p q : Int, ds = [.int p, .int q] ∧ q ≠ 0 ∧ q.natAbs < 2 ^ 9000
def postR (ds es : List D) : Prop := ∃ p q : Int, ds = [.int p, .int q] ∧ es = [.int (Rat.divInt p q).num, .int ((Rat.divInt p q).den : Int)]
/-- how Ratio is made -/
structure MkR (P : Program) (w : World) (K : PySem.W.Frag) (mg : Str → Option Value) (base : Heap) (C : CT) where
  f : Addr
  fd : FuncData
  ds : List Value
  M : Mk K (C 0).1 f
  G : FnOk P w K mg base CX0 2 f fd ["self", "top", "bottom"] (spI C 0 preR postR)
  b2 : Binds K fd ["self", "top", "bottom"] []
  b1 : Binds K fd ["self", "top", "bottom"] ds
  d1 : Vals [.int 1] ds
section
variable {P : Program} {w : World} {K : PySem.W.Frag} {mg : Str → Option Value} {base : Heap} {C : CT} {A : Amb} {ρ : Ro} {te : TE} {R : D → Prop}
abbrev sRatioInit : Stmt := inClass (top 20) 0
abbrev NsRatioInit : List Str := ["self", "top", "bottom", "shared"]
theorem csRatioInit : FnScope NsRatioInit ["self", "top", "bottom"] (defScope sRatioInit) := ⟨rfl, rfl, rfl, by decide +kernel, rfl, by decide +kernel, by decide +kernel⟩

theorem ok_initR (T : Txt K mg C) (DI : Df P w K mg base 1 "is_integer" ["value"] (spIsI C)) {f : Addr} {fd : FuncData} (F : FunD K "__init__" "Ratio.__init__" (defArgs sRatioInit) (defBody sRatioInit) (defScope sRatioInit) [.int 1] [] f fd) :
    FnOk P w K mg base CX0 2 f fd ["self", "top", "bottom"] (spI C 0 preR postR) := by
  refine F.ok csRatioInit (spI_len fun ds h => by obtain ⟨p, q, rfl, _⟩ := h; rfl) (fun cdv A outer s H vs Q E hr h => ⟨_, PSs.nox (pss_cons (ps_if (pt_not (pt_val (pe_df DI hr (pa_cons (pv 1) pa_nil)))) (pss_one ps_never) pss_nil)
      (pss_cons (ps_if (PW.pt (pw_or (pt_not (pt_val (pe_df DI hr (pa_cons (pv 2) pa_nil)))) (pw_or1 (pt_cmpR op_eq (pv 2) pe_int (nomark _))))) (pss_one ps_never) pss_nil)
      (pss_cons (ps_set (i := 3) csRatioInit.nd rfl (Or.inl rfl) (pe_callBfun cr_gcd (by rfl) T.gcd (pa_cons (pv 1) (pa_cons (pv 2) pa_nil))))
      (pss_cons (ps_if (pt_cmpR op_lt (pv 2) pe_int (nomark _)) (pss_one (ps_set (i := 3) csRatioInit.nd rfl (Or.inl rfl) (pe_un un_neg (pv 3)))) pss_nil)
      (pss_cons (ps_fld (pv 0) (pe_op op_fdivNW (pv 1) (pv 3)) rfl)
      (pss_one (ps_fld (pv 0) (pe_op op_fdivNW (pv 2) (pv 3)) rfl))))))), spI_run h fun a dx ds hp => ?_⟩)
  obtain ⟨p, q, rfl, q0, hq⟩ := hp
  have isint : ∀ (i : Int) (d : D), (∃ d', [D.int i] = [d'] ∧ d = .bl (isI d')) → d = .bl true := fun i d h => by obtain ⟨_, e, rfl⟩ := h; cases e; rfl
  refine ds_ifs (dt_not (dt_B (de_call0 (dla_cons (dl_val rfl (dla_nil ⟨⟨_, rfl, .int p⟩, fun d hd => ?_⟩))))))
  refine ⟨true, isint p d hd, ⟨no1, fun _ => ds_nexts ?_⟩⟩
  refine ds_ifs (dt_or (dt_not (dt_B (de_call0 (dla_cons (dl_val rfl (dla_nil ⟨⟨_, rfl, .int q⟩, fun d hd => ?_⟩)))))))
  refine ⟨true, isint q d hd, ⟨no1, fun _ => dt_test (w_op (w_var rfl (w_int (od_eq rfl ⟨_, rfl, ⟨fun z => absurd (eq_of_beq z) q0, fun _ => ds_nexts ?_⟩⟩))))⟩⟩
  refine ds_set (de_cb (w_cons (w_var rfl (w_cons (w_var rfl (da_nil (ca_gcd ?_)))))))
  have s0 := sg_ne (p := p) q0
  have s1 : (sg p q).natAbs.log2 < 9000 := log_of (Nat.lt_of_le_of_lt (sg_abs q0) hq) (by decide) (Nat.le_refl _)
  have fin : ∀ ρ' : Ro, ρ'[0]? = some (some (Sl.ob a dx 0 [])) → ρ'[1]? = some (some (Sl.val (.int p))) → ρ'[2]? = some (some (Sl.val (.int q))) → ρ'[3]? = some (some (Sl.val (.int (sg p q)))) →
      DS ⟨C, fun _ => True, none⟩ ρ' (tSeq (sFld K (tVar 0) (tOp (rI (fun _ j => j ≠ 0 ∧ j.natAbs.log2 < 9000) fun i j => .int (i.fdiv j)) (tVar 1) (tVar 3)) "_top") (sFld K (tVar 0) (tOp (rI (fun _ j => j ≠ 0 ∧ j.natAbs.log2 < 9000) fun i j => .int (i.fdiv j)) (tVar 2) (tVar 3)) "_bottom"))
        { nx := fun ρ => ∃ es, ρ[0]? = some (some (Sl.ob a dx 0 es)) ∧ es.length = (C 0).2.length ∧ postR [.int p, .int q] es, rt := fun _ => False } := by
    intro ρ' h0 h1 h2 h3
    have l0 : 0 < ρ'.length := (List.getElem?_eq_some_iff.mp h0).1
    refine ds_fld h0 T.kR.cl T.nT (k := 0) (by rw [T.fR]; rfl) (by rw [T.fR]; decide) rfl (w_op (w_var h1 (w_var h3 (oi_I (k := Int.fdiv) rfl ⟨s0, s1⟩ ?_))))
    refine ds_fld1 (List.getElem?_set_self l0) T.kR.cl T.nB (k := 1) (by rw [T.fR]; rfl) (by rw [T.fR]; decide) rfl (w_op (w_var (by rw [List.getElem?_set_ne (by decide)]; exact h2) (w_var (by rw [List.getElem?_set_ne (by decide)]; exact h3) (oi_I (k := Int.fdiv) rfl ⟨s0, s1⟩ ?_))))
    refine ⟨_, List.getElem?_set_self (by rw [List.length_set]; exact l0), by rw [T.fR]; rfl, p, q, rfl, ?_⟩
    rw [init_top q0, init_bot q0]
    rfl
  refine ds_ifs (dt_test (w_op (w_var rfl (w_int (ob_I0 (k := fun i j => decide (i < j)) rfl ⟨_, rfl, ⟨fun z => ?_, fun z => ?_⟩⟩)))))
  · refine ds_set (w_un (w_var rfl (ui_neg ?_)))
    exact fin _ rfl rfl rfl (by unfold sg; rw [if_pos (of_decide_eq_true z)]; rfl)
  · exact ds_nexts (fin _ rfl rfl rfl (by unfold sg; rw [if_neg (of_decide_eq_false z)]; rfl))
end
end K13
namespace K13
open PySem L2 GX GD KM
open Evl (Ex)
section
variable {P : Program} {w : World} {K : PySem.W.Frag} {mg : Str → Option Value} {base : Heap} {C : CT} {A : Amb} {ρ : Ro} {te : TE} {R : D → Prop}
/-- a call of is_integer -/
theorem c_isI {i : Nat} {d : D} {R : D → Prop} (h : ρ[i]? = some (some (Sl.val d))) (hn : Nm d) (hA : A.C = C) (r : R (.bl (isI d))) : DE A ρ (tCall (spIsI C) [] E0 (tCons (tVar i) tNil)) R := by
  subst hA
  exact de_call0 (dla_cons (dl_val h (dla_nil ⟨⟨_, rfl, hn⟩, fun e he => by obtain ⟨_, q, rfl⟩ := he; cases q; exact r⟩)))
abbrev sIsCount : Stmt := top 4
abbrev NsIsCount : List Str := ["value"]
theorem csIsCount : FnScope NsIsCount ["value"] (defScope sIsCount) := ⟨rfl, rfl, rfl, by decide +kernel, rfl, by decide +kernel, by decide +kernel⟩

def spIsC (C : CT) : Sp := spD C (fun ds => ∃ i : Int, ds = [.int i]) fun ds e => ∃ i : Int, ds = [.int i] ∧ e = .bl (decide (0 ≤ i))
theorem ok_isC (T : Txt K mg C) (DI : Df P w K mg base 1 "is_integer" ["value"] (spIsI C)) {f : Addr} {fd : FuncData} (F : Fun K "is_count" "is_count" sIsCount f fd) : FnOk P w K mg base CX0 2 f fd ["value"] (spIsC C) := by
  refine F.ok csIsCount (spD_len fun ds h => by obtain ⟨d, rfl⟩ := h; rfl) (fun cdv A outer s H vs Q E hr h => ⟨_, (pss_one (ps_ret (pe_and (pe_df DI hr (pa_cons (pv 0) pa_nil)) (pe_one (pe_cmpR op_ge (pv 0) pe_int (nomark _)))))), spD_run h fun ds hp => ?_⟩)
  obtain ⟨i, rfl⟩ := hp
  exact ds_ret (de_andV (c_isI rfl (.int i) rfl ⟨true, rfl, no3, fun _ => w_op (w_var rfl (w_int (ob_I0 (k := fun i j => decide (j ≤ i)) rfl ⟨i, rfl, rfl⟩)))⟩))
abbrev sIsPlaceBelow : Stmt := top 6
abbrev NsIsPlaceBelow : List Str := ["value", "places"]
theorem csIsPlaceBelow : FnScope NsIsPlaceBelow ["value", "places"] (defScope sIsPlaceBelow) := ⟨rfl, rfl, rfl, by decide +kernel, rfl, by decide +kernel, by decide +kernel⟩

def spIsPB (C : CT) : Sp := spD C (fun ds => ∃ i n : Int, ds = [.int i, .int n]) fun ds e => ∃ i n : Int, ds = [.int i, .int n] ∧ e = .bl (decide (0 ≤ i) && decide (i < n))
theorem ok_isPB (DC : Df P w K mg base 2 "is_count" ["value"] (spIsC C)) {f : Addr} {fd : FuncData} (F : Fun K "is_place_below" "is_place_below" sIsPlaceBelow f fd) : FnOk P w K mg base CX0 3 f fd ["value", "places"] (spIsPB C) := by
  refine F.ok csIsPlaceBelow (spD_len fun ds h => by obtain ⟨i, n, rfl⟩ := h; rfl) (fun cdv A outer s H vs Q E hr h => ⟨_, (pss_one (ps_ret (pe_and (pe_df DC hr (pa_cons (pv 0) pa_nil)) (pe_one (pe_cmpR op_lt (pv 0) (pv 1) (nomark _)))))), spD_run h fun ds hp => ?_⟩)
  obtain ⟨i, n, rfl⟩ := hp
  refine ds_ret (de_andV (de_call0 (dla_cons (dl_val rfl (dla_nil ⟨⟨i, rfl⟩, fun e he => ?_⟩)))))
  obtain ⟨_, q, rfl⟩ := he
  cases q
  refine ⟨_, rfl, fun z => ⟨i, n, rfl, by rw [z]; rfl⟩, fun z => w_op (w_var rfl (w_var rfl (ob_I0 (k := fun i j => decide (i < j)) rfl ⟨i, n, rfl, by rw [z]; rfl⟩)))⟩
abbrev sIsList : Stmt := top 5
abbrev NsIsList : List Str := ["value"]
theorem csIsList : FnScope NsIsList ["value"] (defScope sIsList) := ⟨rfl, rfl, rfl, by decide +kernel, rfl, by decide +kernel, by decide +kernel⟩

def spIsL (C : CT) : Sp := spD C (fun ds => ∃ t es, ds = [seqD t es]) fun ds e => e = .bl true
theorem ok_isL (T : Txt K mg C) {f : Addr} {fd : FuncData} (F : Fun K "is_list" "is_list" sIsList f fd) : FnOk P w K mg base CX0 1 f fd ["value"] (spIsL C) := by
  refine F.ok csIsList (spD_len fun ds h => by obtain ⟨t, es, rfl⟩ := h; rfl) (fun cdv A outer s H vs Q E hr h => ⟨_, (pss_one (ps_ret (pe_callB call_isiT (by rfl) T.isinstance (by decide +kernel) (pa_cons (pv 0) (pa_cons (pe_tup (pa_cons (pe_bltn (v := .ty "list") (by rfl) T.list (by decide +kernel) rfl) (pa_cons (pe_bltn (v := .ty "tuple") (by rfl) T.tuple (by decide +kernel) rfl) pa_nil))) pa_nil))))), spD_run h fun ds hp => ?_⟩)
  obtain ⟨t, es, rfl⟩ := hp
  cases t with
  | true => exact ds_ret (l_isiT (.ty _) (.ty _) (dl_arg rfl ⟨nofun, true, kitAny_cons (b := false) (kit_ty (by decide +kernel)) (fun _ => kitAny_cons (b := true) (r := true) (kit_ty (by decide +kernel)) no3 fun _ => rfl) no2, rfl⟩))
  | false => exact ds_ret (l_isiT (.ty _) (.ty _) (dl_arg rfl ⟨nofun, true, kitAny_cons (r := true) (b := true) (kit_ty (by decide +kernel)) no3 fun _ => rfl, rfl⟩))
abbrev sIsNumber : Stmt := top 19
abbrev NsIsNumber : List Str := ["value"]
theorem csIsNumber : FnScope NsIsNumber ["value"] (defScope sIsNumber) := ⟨rfl, rfl, rfl, by decide +kernel, rfl, by decide +kernel, by decide +kernel⟩

def spIsN (C : CT) : Sp := spD C (fun ds => ∃ d, ds = [d] ∧ Nm d) fun ds e => e = .bl true
theorem ok_isN (T : Txt K mg C) (DI : Df P w K mg base 1 "is_integer" ["value"] (spIsI C)) {f : Addr} {fd : FuncData} (F : Fun K "is_number" "is_number" sIsNumber f fd) : FnOk P w K mg base CX0 2 f fd ["value"] (spIsN C) := by
  refine F.ok csIsNumber (spD_len fun ds h => by obtain ⟨d, rfl, _⟩ := h; rfl) (fun cdv A outer s H vs Q E hr h => ⟨_, (pss_one (ps_ret (pe_or (pe_df DI hr (pa_cons (pv 0) pa_nil)) (pe_one (pe_callB call_isi (by rfl) T.isinstance (by decide +kernel) (pa_cons (pv 0) (pa_cons (pe_glob (v := .ref (C 0).1) (by rfl) T.mgRatio rfl) pa_nil))))))), spD_run h fun ds hp => ?_⟩)
  obtain ⟨d, rfl, hd⟩ := hp
  cases hd with
  | int i => exact ds_ret (de_orV (c_isI rfl (.int i) rfl ⟨true, rfl, fun _ => rfl, no3⟩))
  | rt r => exact ds_ret (de_orV (c_isI rfl (.rt r) rfl ⟨false, rfl, no2, fun _ => w_isi (.own _) (w_var rfl ⟨kc0 T (.rt r), true, T.kRR, rfl⟩)⟩))
abbrev sRatioTop : Stmt := inClass (top 20) 2
abbrev NsRatioTop : List Str := ["self"]
theorem csRatioTop : FnScope NsRatioTop ["self"] (defScope sRatioTop) := ⟨rfl, rfl, rfl, by decide +kernel, rfl, by decide +kernel, by decide +kernel⟩

abbrev sRatioBottom : Stmt := inClass (top 20) 3
abbrev NsRatioBottom : List Str := ["self"]
theorem csRatioBottom : FnScope NsRatioBottom ["self"] (defScope sRatioBottom) := ⟨rfl, rfl, rfl, by decide +kernel, rfl, by decide +kernel, by decide +kernel⟩

def spTop (C : CT) : Sp := spD C (fun ds => ∃ r, ds = [rt r]) fun ds e => ∃ r : Rat, ds = [rt r] ∧ e = .int r.num
def spBot (C : CT) : Sp := spD C (fun ds => ∃ r, ds = [rt r]) fun ds e => ∃ r : Rat, ds = [rt r] ∧ e = .int (r.den : Int)
theorem e_top {i : Nat} {r : Rat} {R : D → Prop} (T : Txt K mg C) (hA : A.C = C) (h : ρ[i]? = some (some (Sl.val (rt r)))) (q : R (.int r.num)) : DE A ρ (tFld K (tVar i) "_top") R := by
  subst hA
  exact de_fld (ds := []) (k := 0) T.kR.cl T.nT (by rw [T.fR]; rfl) (by rw [T.fR]; decide) (w_var h ⟨_, rfl, _, rfl, q⟩)
theorem e_bot {i : Nat} {r : Rat} {R : D → Prop} (T : Txt K mg C) (hA : A.C = C) (h : ρ[i]? = some (some (Sl.val (rt r)))) (q : R (.int (r.den : Int))) : DE A ρ (tFld K (tVar i) "_bottom") R := by
  subst hA
  exact de_fld (ds := []) (k := 1) T.kR.cl T.nB (by rw [T.fR]; rfl) (by rw [T.fR]; decide) (w_var h ⟨_, rfl, _, rfl, q⟩)
theorem ok_top (T : Txt K mg C) {f : Addr} {fd : FuncData} (F : Fun K "top" "Ratio.top" sRatioTop f fd) : FnOk P w K mg base CX0 1 f fd ["self"] (spTop C) := by
  refine F.ok csRatioTop (spD_len fun ds h => by obtain ⟨d, rfl⟩ := h; rfl) (fun cdv A outer s H vs Q E hr h => ⟨_, (pss_one (ps_ret (pe_fld (pv 0) rfl))), spD_run h fun ds hp => ?_⟩)
  obtain ⟨r, rfl⟩ := hp
  exact ds_ret (e_top T rfl rfl ⟨r, rfl, rfl⟩)
theorem ok_bot (T : Txt K mg C) {f : Addr} {fd : FuncData} (F : Fun K "bottom" "Ratio.bottom" sRatioBottom f fd) : FnOk P w K mg base CX0 1 f fd ["self"] (spBot C) := by
  refine F.ok csRatioBottom (spD_len fun ds h => by obtain ⟨d, rfl⟩ := h; rfl) (fun cdv A outer s H vs Q E hr h => ⟨_, (pss_one (ps_ret (pe_fld (pv 0) rfl))), spD_run h fun ds hp => ?_⟩)
  obtain ⟨r, rfl⟩ := hp
  exact ds_ret (e_bot T rfl rfl ⟨r, rfl, rfl⟩)
abbrev sAsRatio : Stmt := top 22
abbrev NsAsRatio : List Str := ["number"]
theorem csAsRatio : FnScope NsAsRatio ["number"] (defScope sAsRatio) := ⟨rfl, rfl, rfl, by decide +kernel, rfl, by decide +kernel, by decide +kernel⟩

def spAsR (C : CT) : Sp := spD C (fun ds => ∃ d, ds = [d] ∧ Nm d) fun ds e => ∃ d, ds = [d] ∧ e = rt (vl d)
theorem ok_asR (T : Txt K mg C) (MR : MkR P w K mg base C) {f : Addr} {fd : FuncData} (F : Fun K "as_ratio" "as_ratio" sAsRatio f fd) : FnOk P w K mg base CX0 4 f fd ["number"] (spAsR C) := by
  refine F.ok csAsRatio (spD_len fun ds h => by obtain ⟨d, rfl, _⟩ := h; rfl) (fun cdv A outer s H vs Q E hr h => ⟨_, (pss_cons (ps_if (pt_val (pe_callB call_isi (by rfl) T.isinstance (by decide +kernel) (pa_cons (pv 0) (pa_cons (pe_glob (v := .ref (C 0).1) (by rfl) T.mgRatio rfl) pa_nil)))) (pss_one (ps_ret (pv 0))) pss_nil)
      (pss_one (ps_ret (pe_make MR.M MR.G (hr.mono (by decide)) (by rfl) T.mgRatio MR.b1 MR.d1 pass0 (pa_cons (pv 0) pa_nil))))), spD_run h fun ds hp => ?_⟩)
  obtain ⟨d, rfl, hd⟩ := hp
  cases hd with
  | int i =>
    refine ds_ifs (dt_B (w_isi (.own _) (w_var rfl ⟨nofun, false, T.kIR, _, rfl, ⟨no2, fun _ => ds_nexts (ds_ret (de_make (des := [.int 1]) (fun _ => .cons (.int 1) .nil) (dla_cons (dl_val rfl (dla_nil ⟨⟨i, 1, rfl, by decide, Nat.lt_of_lt_of_le (by decide : (1 : Int).natAbs < 2 ^ 1) (Nat.pow_le_pow_right (by decide) (by decide))⟩, fun es he => ?_⟩)))))⟩⟩)))
    obtain ⟨p, q, e, rfl⟩ := he
    cases e
    exact ⟨by rw [T.fR]; rfl, _, rfl, by unfold rt; rw [of_int]; rfl⟩
  | rt r => exact ds_ifs (dt_B (w_isi (.own _) (w_var rfl ⟨kc0 T (.rt r), true, T.kRR, _, rfl, ⟨fun _ => ds_rets (w_var rfl ⟨_, rfl, by rw [vl_rt]⟩), no3⟩⟩)))
end
end K13
namespace K13
open PySem L2 GX GD KM
open Evl (Ex)
section
variable {P : Program} {w : World} {K : PySem.W.Frag} {mg : Str → Option Value} {base : Heap} {C : CT} {A : Amb} {ρ : Ro} {te : TE} {R : D → Prop}
/-- one number in -/
theorem c_asR {i : Nat} {d : D} {R : D → Prop} (h : ρ[i]? = some (some (Sl.val d))) (hn : Nm d) (hA : A.C = C) (r : R (rt (vl d))) : DE A ρ (tCall (spAsR C) [] E0 (tCons (tVar i) tNil)) R := by
  subst hA
  exact de_call0 (dla_cons (dl_val h (dla_nil ⟨⟨_, rfl, hn⟩, fun e he => by obtain ⟨_, q, rfl⟩ := he; cases q; exact r⟩)))
theorem c_isN {i : Nat} {d : D} {R : D → Prop} (h : ρ[i]? = some (some (Sl.val d))) (hn : Nm d) (hA : A.C = C) (r : R (.bl true)) : DE A ρ (tCall (spIsN C) [] E0 (tCons (tVar i) tNil)) R := by
  subst hA
  exact de_call0 (dla_cons (dl_val h (dla_nil ⟨⟨_, rfl, hn⟩, fun e he => by cases he; exact r⟩)))
/-- the target of a walk over numbers -/
theorem dg_num {i : Nat} {d : D} (hd : Nm d) : DG A true [i] ρ (gName i) d (ρ.set i (some (Sl.val d))) := dg_nameL hd.leaf
def asR (d : D) : D := rt (vl d)
/-- a walk over a list or a tuple that was passed -/
theorem di_arg {i : Nat} {t : Bool} {es : List D} {R : List D → Prop} (h : ρ[i]? = some (some (Sl.arg (seqD t es)))) (r : R es) : DI A true ρ (fun σ H Q => iList K (tVar i) σ H Q ∨ iTup K (tVar i) σ H Q) R := by
  cases t with
  | true => exact di_orR (dm_tup (dm_arg h ⟨es, rfl, r⟩))
  | false => exact di_orL (dm_list (dm_arg h ⟨es, rfl, r⟩))
abbrev sAsRatios : Stmt := top 23
abbrev NsAsRatios : List Str := ["numbers", "number"]
theorem csAsRatios : FnScope NsAsRatios ["numbers"] (defScope sAsRatios) := ⟨rfl, rfl, rfl, by decide +kernel, rfl, by decide +kernel, by decide +kernel⟩

def spAsRs (C : CT) : Sp := spD C (fun ds => ∃ t es, ds = [seqD t es] ∧ (∀ d ∈ es, Nm d) ∧ es.length ≤ 1000) fun ds e => ∃ t es, ds = [seqD t es] ∧ e = .lst (es.map asR)
theorem seqD_inj {t t2 : Bool} {es es2 : List D} (h : seqD t es = seqD t2 es2) : es = es2 := by
  cases t <;> cases t2 <;> first | (cases h; rfl) | cases h
theorem ok_asRs (T : Txt K mg C) (DA_ : Df P w K mg base 4 "as_ratio" ["number"] (spAsR C)) {f : Addr} {fd : FuncData} (F : Fun K "as_ratios" "as_ratios" sAsRatios f fd) : FnOk P w K mg base CX0 5 f fd ["numbers"] (spAsRs C) := by
  refine F.ok csAsRatios (spD_len fun ds h => by obtain ⟨t, es, rfl, _⟩ := h; rfl) (fun cdv A outer s H vs Q E hr h => ⟨_, (pss_one (ps_ret (pe_lc (own := [("number", 1)]) (g := gName 1) (tt := tYes) rfl csAsRatios.nd (pi_or (pi_list (pv 0)) (pi_tup (pv 0))) (blkOk_by (N := NsAsRatios) (sc := defScope sAsRatios) (by decide +kernel)) (fun _ _ _ _ _ => pg_name (i := 1) csAsRatios.nd rfl (Or.inl rfl)) (fun _ _ _ _ _ => pts_nil) (fun _ _ _ _ _ => by exact (pe_df DA_ hr (pa_cons (pv 1) pa_nil)))))), spD_run h fun ds hp => ?_⟩)
  obtain ⟨t, es, rfl, hn, hl⟩ := hp
  have h0 : (ro NsAsRatios [seqD t es])[0]? = some (some (Sl.arg (seqD t es))) := by cases t <;> rfl
  exact ds_ret (DF.de (df_map asR (di_arg h0 ⟨by omega, fun i d hd => ⟨_, dg_num (hn d (List.mem_of_getElem? hd)), c_asR rfl (hn d (List.mem_of_getElem? hd)) rfl rfl⟩, t, es, rfl, rfl⟩)))
abbrev sAreNumbers : Stmt := top 24
abbrev NsAreNumbers : List Str := ["value", "many", "number"]
theorem csAreNumbers : FnScope NsAreNumbers ["value", "many"] (defScope sAreNumbers) := ⟨rfl, rfl, rfl, by decide +kernel, rfl, by decide +kernel, by decide +kernel⟩

def spAreN (C : CT) : Sp := spD C (fun ds => ∃ t es, ds = [seqD t es, .int (es.length : Int)] ∧ (∀ d ∈ es, Nm d) ∧ es.length ≤ 1000) fun ds e => e = .bl true
theorem ok_areN (T : Txt K mg C) (DL_ : Df P w K mg base 1 "is_list" ["value"] (spIsL C)) (DN_ : Df P w K mg base 2 "is_number" ["value"] (spIsN C)) {f : Addr} {fd : FuncData} (F : Fun K "are_numbers" "are_numbers" sAreNumbers f fd) : FnOk P w K mg base CX0 3 f fd ["value", "many"] (spAreN C) := by
  refine F.ok csAreNumbers (spD_len fun ds h => by obtain ⟨t, es, rfl, _⟩ := h; rfl) (fun cdv A outer s H vs Q E hr h => ⟨_, (pss_one (ps_ret (pe_and (pe_df DL_ hr (pa_cons (pv 0) pa_nil)) (pe_and (pe_cmpR op_eq (pe_callB call_len_seq (by rfl) T.len PySem.boot_len (pa_cons (pv 0) pa_nil)) (pv 1) (nomark _)) (pe_one (pe_callB (cr_all rfl) (by rfl) T.all (by decide +kernel) (pa_cons (pe_lc (own := [("number", 2)]) (g := gName 2) (tt := tYes) rfl csAreNumbers.nd (pi_or (pi_list (pv 0)) (pi_tup (pv 0))) (blkOk_by (N := NsAreNumbers) (sc := defScope sAreNumbers) (by decide +kernel)) (fun _ _ _ _ _ => pg_name (i := 2) csAreNumbers.nd rfl (Or.inl rfl)) (fun _ _ _ _ _ => pts_nil) (fun _ _ _ _ _ => by exact (pe_df DN_ hr (pa_cons (pv 2) pa_nil)))) pa_nil))))))), spD_run h fun ds hp => ?_⟩)
  obtain ⟨t, es, rfl, hn, hl⟩ := hp
  have h0 : (ro NsAreNumbers [seqD t es, .int (es.length : Int)])[0]? = some (some (Sl.arg (seqD t es))) := by cases t <;> rfl
  refine ds_ret (de_andV (de_call0 (dla_cons (dl_arg h0 (dla_nil ⟨⟨t, es, rfl⟩, fun e he => ?_⟩)))))
  cases he
  refine ⟨true, rfl, no3, fun _ => de_andV (w_op (l_len (dl_arg h0 ⟨t, es, rfl, w_var rfl (od_eq rfl ⟨_, rfl, fun z => ?_, fun _ => ?_⟩)⟩)))⟩
  · simp at z
  · refine w_allB (df_map (fun _ => .bl true) (di_arg h0 ⟨by omega, fun i d hd => ⟨_, dg_num (hn d (List.mem_of_getElem? hd)), c_isN rfl (hn d (List.mem_of_getElem? hd)) rfl rfl⟩, es.map (fun _ => true), map_bl, ?_⟩))
    exact congrArg D.bl (all_true fun b hb => by obtain ⟨_, _, rfl⟩ := List.mem_map.mp hb; rfl)
abbrev sCheckNumber : Stmt := top 21
abbrev NsCheckNumber : List Str := ["number"]
theorem csCheckNumber : FnScope NsCheckNumber ["number"] (defScope sCheckNumber) := ⟨rfl, rfl, rfl, by decide +kernel, rfl, by decide +kernel, by decide +kernel⟩

def spChk (C : CT) : Sp := spD C (fun ds => ∃ d, ds = [d] ∧ Nm d) fun ds e => e = .non
theorem ok_chk (DN_ : Df P w K mg base 2 "is_number" ["value"] (spIsN C)) {f : Addr} {fd : FuncData} (F : Fun K "check_number" "check_number" sCheckNumber f fd) : FnOk P w K mg base CX0 3 f fd ["number"] (spChk C) := by
  refine F.ok csCheckNumber (spD_len fun ds h => by obtain ⟨d, rfl, _⟩ := h; rfl) (fun cdv A outer s H vs Q E hr h => ⟨_, (pss_one (ps_if (pt_not (pt_val (pe_df DN_ hr (pa_cons (pv 0) pa_nil)))) (pss_one ps_never) pss_nil)), spD_run h fun ds hp => ?_⟩)
  obtain ⟨d, rfl, hd⟩ := hp
  have h0 : (ro NsCheckNumber [d])[0]? = some (some (Sl.val d)) := by cases hd <;> rfl
  exact ds_if (dt_not (dt_B (c_isN h0 hd rfl ⟨true, rfl, ⟨no1, fun _ => ds_next rfl⟩⟩)))
/-! ### + and * -/
theorem e_ptop {i : Nat} {r : Rat} {R : D → Prop} (hA : A.C = C) (h : ρ[i]? = some (some (Sl.val (rt r)))) (q : R (.int r.num)) : DE A ρ (tProp (C 0).1 (spTop C) [] E0 (tVar i)) R := by
  subst hA
  exact de_prop (w_var h ⟨_, rfl, ⟨r, rfl⟩, fun d hd => by
    obtain ⟨s, e, rfl⟩ := hd
    have : r = s := by have := congrArg (fun l => vl (l.headD .non)) e; simpa [vl_rt] using this
    subst this; exact q⟩)
theorem e_pbot {i : Nat} {r : Rat} {R : D → Prop} (hA : A.C = C) (h : ρ[i]? = some (some (Sl.val (rt r)))) (q : R (.int (r.den : Int))) : DE A ρ (tProp (C 0).1 (spBot C) [] E0 (tVar i)) R := by
  subst hA
  exact de_prop (w_var h ⟨_, rfl, ⟨r, rfl⟩, fun d hd => by
    obtain ⟨s, e, rfl⟩ := hd
    have : r = s := by have := congrArg (fun l => vl (l.headD .non)) e; simpa [vl_rt] using this
    subst this; exact q⟩)
def spBin (C : CT) (f : Rat → Rat → Rat) : Sp := spD C (fun ds => ∃ r d n, ds = [rt r, d] ∧ Nm d ∧ Sz n r ∧ Sz n (vl d) ∧ 0 < n ∧ n ≤ 4000) fun ds e => ∃ r d, ds = [rt r, d] ∧ e = rt (f r (vl d))
theorem rt_pair {r s : Rat} {d e : D} (h : [rt r, d] = [rt s, e]) : r = s ∧ d = e := by
  have h1 := congrArg (fun l => vl (l.headD .non)) h
  have h2 := congrArg (fun l => l.getD 1 .non) h
  exact ⟨by simpa [vl_rt] using h1, by simpa using h2⟩
theorem mk_of {p q : Int} {r : Rat} {R : D → Prop} (e : Rat.divInt p q = r) (h : R (rt r)) : ∀ es, postR [.int p, .int q] es → es.length = [("_top" : Str), ("_bottom" : Str)].length ∧ R (.ins 0 es) := fun es he => by
  obtain ⟨p', q', z, rfl⟩ := he
  cases z
  exact ⟨rfl, by subst e; exact h⟩
abbrev sRatioAdd : Stmt := inClass (top 20) 6
abbrev NsRatioAdd : List Str := ["self", "other", "number", "top"]
theorem csRatioAdd : FnScope NsRatioAdd ["self", "other"] (defScope sRatioAdd) := ⟨rfl, rfl, rfl, by decide +kernel, rfl, by decide +kernel, by decide +kernel⟩

theorem ok_add (T : Txt K mg C) (MR : MkR P w K mg base C) (DA_ : Df P w K mg base 4 "as_ratio" ["number"] (spAsR C)) (DP_top : Pr P w K mg base C 0 "top" (spTop C)) (DP_bottom : Pr P w K mg base C 0 "bottom" (spBot C)) {f : Addr} {fd : FuncData} (F : Fun K "__add__" "Ratio.__add__" sRatioAdd f fd) :
    FnOk P w K mg base CX0 5 f fd ["self", "other"] (spBin C (· + ·)) := by
  refine F.ok csRatioAdd (spD_len fun ds h => by obtain ⟨r, d, n, rfl, _⟩ := h; rfl) (fun cdv A outer s H vs Q E hr h => ⟨_, (pss_cons (ps_set (i := 2) csRatioAdd.nd rfl (Or.inl rfl) (pe_df DA_ hr (pa_cons (pv 1) pa_nil)))
      (pss_cons (ps_set (i := 3) csRatioAdd.nd rfl (Or.inl rfl) (pe_op op_add (pe_op op_mulW (pe_fld (pv 0) rfl) (pe_pr DP_bottom hr (pv 2))) (pe_op op_mulW (pe_pr DP_top hr (pv 2)) (pe_fld (pv 0) rfl))))
      (pss_one (ps_ret (pe_make MR.M MR.G (hr.mono (by decide)) (by rfl) T.mgRatio MR.b2 .nil pass0 (pa_cons (pv 3) (pa_cons (pe_op op_mulW (pe_fld (pv 0) rfl) (pe_pr DP_bottom hr (pv 2))) pa_nil))))))), spD_run h fun ds hp => ?_⟩)
  obtain ⟨r, d, n, rfl, hd, z1, z2, n0, n1⟩ := hp
  have h0 : (ro NsRatioAdd [rt r, d])[1]? = some (some (Sl.val d)) := by cases hd <;> rfl
  refine ds_set (c_asR h0 hd rfl ?_)
  have hs := add_eq r (vl d)
  generalize hv : vl d = s at z2 hs
  refine ds_set (w_op (w_op (e_top T rfl rfl (e_pbot rfl rfl (oi_I (k := (· * ·)) rfl (wide_mul z1.num z2.den n0 n0 (by omega)) (w_op (e_ptop rfl rfl (e_bot T rfl rfl (oi_I (k := (· * ·)) rfl (wide_mul z2.num z1.den n0 n0 (by omega)) (oi_I0 (k := (· + ·)) rfl ?_))))))))))
  refine ds_ret (de_make (des := []) (fun _ => .nil) (dla_cons (dl_val rfl (dla_cons (dl_de (w_op (e_bot T rfl rfl (e_pbot rfl rfl (oi_I (k := (· * ·)) rfl (wide_mul z1.den z2.den n0 n0 (by omega)) (dla_nil ⟨?_, ?_⟩))))))))))
  · exact ⟨_, _, rfl, Int.mul_ne_zero (dz r) (dz s), Nat.lt_of_lt_of_le (mul_lt z1.den z2.den) (Nat.pow_le_pow_right (by decide) (by omega))⟩
  · intro es he
    obtain ⟨h1, h2⟩ := mk_of (R := fun e => ∃ r' d', [rt r, d] = [rt r', d'] ∧ e = rt (r' + vl d')) (r := r + s) hs ⟨r, d, rfl, by rw [hv]⟩ es he
    exact ⟨by rw [T.fR]; exact h1, h2⟩
abbrev sRatioMul : Stmt := inClass (top 20) 10
abbrev NsRatioMul : List Str := ["self", "other", "number"]
theorem csRatioMul : FnScope NsRatioMul ["self", "other"] (defScope sRatioMul) := ⟨rfl, rfl, rfl, by decide +kernel, rfl, by decide +kernel, by decide +kernel⟩

theorem ok_mul (T : Txt K mg C) (MR : MkR P w K mg base C) (DA_ : Df P w K mg base 4 "as_ratio" ["number"] (spAsR C)) (DP_top : Pr P w K mg base C 0 "top" (spTop C)) (DP_bottom : Pr P w K mg base C 0 "bottom" (spBot C)) {f : Addr} {fd : FuncData} (F : Fun K "__mul__" "Ratio.__mul__" sRatioMul f fd) :
    FnOk P w K mg base CX0 5 f fd ["self", "other"] (spBin C (· * ·)) := by
  refine F.ok csRatioMul (spD_len fun ds h => by obtain ⟨r, d, n, rfl, _⟩ := h; rfl) (fun cdv A outer s H vs Q E hr h => ⟨_, (pss_cons (ps_set (i := 2) csRatioMul.nd rfl (Or.inl rfl) (pe_df DA_ hr (pa_cons (pv 1) pa_nil)))
      (pss_one (ps_ret (pe_make MR.M MR.G (hr.mono (by decide)) (by rfl) T.mgRatio MR.b2 .nil pass0 (pa_cons (pe_op op_mulW (pe_fld (pv 0) rfl) (pe_pr DP_top hr (pv 2))) (pa_cons (pe_op op_mulW (pe_fld (pv 0) rfl) (pe_pr DP_bottom hr (pv 2))) pa_nil)))))), spD_run h fun ds hp => ?_⟩)
  obtain ⟨r, d, n, rfl, hd, z1, z2, n0, n1⟩ := hp
  have h0 : (ro NsRatioMul [rt r, d])[1]? = some (some (Sl.val d)) := by cases hd <;> rfl
  refine ds_set (c_asR h0 hd rfl ?_)
  have hs := mul_eq r (vl d)
  generalize hv : vl d = s at z2 hs
  refine ds_ret (de_make (des := []) (fun _ => .nil) (dla_cons (dl_de (w_op (e_top T rfl rfl (e_ptop rfl rfl (oi_I (k := (· * ·)) rfl (wide_mul z1.num z2.num n0 n0 (by omega)) (dla_cons (dl_de (w_op (e_bot T rfl rfl (e_pbot rfl rfl (oi_I (k := (· * ·)) rfl (wide_mul z1.den z2.den n0 n0 (by omega)) (dla_nil ⟨?_, ?_⟩))))))))))))))
  · exact ⟨_, _, rfl, Int.mul_ne_zero (dz r) (dz s), Nat.lt_of_lt_of_le (mul_lt z1.den z2.den) (Nat.pow_le_pow_right (by decide) (by omega))⟩
  · intro es he
    obtain ⟨h1, h2⟩ := mk_of (R := fun e => ∃ r' d', [rt r, d] = [rt r', d'] ∧ e = rt (r' * vl d')) (r := r * s) hs ⟨r, d, rfl, by rw [hv]⟩ es he
    exact ⟨by rw [T.fR]; exact h1, h2⟩
end
end K13
namespace K13
open PySem L2 GX GD KM
open Evl (Ex)
theorem Sz_mul {n m : Nat} {r s : Rat} (h : Sz n r) (k : Sz m s) : Sz (n + m) (r * s) := by
  rw [← mul_eq]
  exact Sz.low (mul_lt h.num k.num) (mul_lt h.den k.den) (Int.mul_ne_zero (dz r) (dz s))
theorem Sz_add {n m : Nat} {r s : Rat} (h : Sz n r) (k : Sz m s) : Sz (n + m + 1) (r + s) := by
  rw [← add_eq]
  refine Sz.low (add_lt (mul_lt h.num k.den) (by rw [Nat.add_comm]; exact mul_lt k.num h.den)) (lt_more (mul_lt h.den k.den) (by omega)) (Int.mul_ne_zero (dz r) (dz s))
/-- the sum of products -/
def dot : List Rat → List Rat → Rat
  | r :: rs, s :: ss => r * s + dot rs ss
  | _, _ => 0
def dotL : Rat → List D → List D → Rat
  | a, d :: ds, e :: es => dotL (a + vl d * vl e) ds es
  | a, _, _ => a
theorem dotL_eq : ∀ (a : Rat) (ds es : List D), dotL a ds es = a + dot (ds.map vl) (es.map vl)
  | a, [], es => by show a = a + dot [] _; rw [show dot [] (es.map vl) = 0 from rfl, Rat.add_zero]
  | a, d :: ds, [] => by show a = a + 0; rw [Rat.add_zero]
  | a, d :: ds, e :: es => by
    show dotL (a + vl d * vl e) ds es = a + (vl d * vl e + dot (ds.map vl) (es.map vl))
    rw [dotL_eq, Rat.add_assoc]
theorem dotL_snoc {a : Rat} {ds es : List D} {i : Nat} {d e : D} (h1 : ds[i]? = some d) (h2 : es[i]? = some e) : dotL a (ds.take (i + 1)) (es.take (i + 1)) = dotL a (ds.take i) (es.take i) + vl d * vl e := by
  induction i generalizing a ds es with
  | zero =>
    cases ds with
    | nil => simp at h1
    | cons x xs =>
      cases es with
      | nil => simp at h2
      | cons y ys =>
        have e1 : x = d := by simpa using h1
        have e2 : y = e := by simpa using h2
        subst e1; subst e2
        rfl
  | succ i ih =>
    cases ds with
    | nil => simp at h1
    | cons x xs =>
      cases es with
      | nil => simp at h2
      | cons y ys => exact ih (a := a + vl x * vl y) (ds := xs) (es := ys) (by simpa using h1) (by simpa using h2)
theorem dotL_min : ∀ {n : Nat} {a : Rat} {ds es : List D}, min ds.length es.length ≤ n → dotL a (ds.take n) (es.take n) = dotL a ds es
  | n, a, [], es, _ => by rw [List.take_nil]; rfl
  | n, a, d :: ds, [], _ => by rw [List.take_nil]; cases n <;> rfl
  | 0, a, d :: ds, e :: es, h => by simp at h
  | n + 1, a, d :: ds, e :: es, h => dotL_min (n := n) (a := a + vl d * vl e) (ds := ds) (es := es) (by simp at h; omega)
section
variable {P : Program} {w : World} {K : PySem.W.Frag} {mg : Str → Option Value} {base : Heap} {C : CT} {A : Amb} {ρ : Ro} {te : TE} {R : D → Prop}
/-! ### == and repr of a Ratio -/
abbrev sRatioEq : Stmt := inClass (top 20) 17
abbrev NsRatioEq : List Str := ["self", "other"]
theorem csRatioEq : FnScope NsRatioEq ["self", "other"] (defScope sRatioEq) := ⟨rfl, rfl, rfl, by decide +kernel, rfl, by decide +kernel, by decide +kernel⟩

def spEqR (C : CT) : Sp := spD C (fun ds => ∃ r s, ds = [rt r, rt s]) fun ds e => ∃ r s : Rat, ds = [rt r, rt s] ∧ e = .bl (decide (r = s))
theorem ok_eq (T : Txt K mg C) {f : Addr} {fd : FuncData} (F : Fun K "__eq__" "Ratio.__eq__" sRatioEq f fd) : FnOk P w K mg base CX0 1 f fd ["self", "other"] (spEqR C) := by
  refine F.ok csRatioEq (spD_len fun ds h => by obtain ⟨r, s, rfl⟩ := h; rfl) (fun cdv A outer s H vs Q E hr h => ⟨_, (pss_one (ps_ret (pe_and (pe_callB call_isi (by rfl) T.isinstance (by decide +kernel) (pa_cons (pv 1) (pa_cons (pe_glob (v := .ref (C 0).1) (by rfl) T.mgRatio rfl) pa_nil))) (pe_and (pe_cmpR op_eq (pe_fld (pv 0) rfl) (pe_fld (pv 1) rfl) (nomark _)) (pe_one (pe_cmpR op_eq (pe_fld (pv 0) rfl) (pe_fld (pv 1) rfl) (nomark _))))))), spD_run h fun ds hp => ?_⟩)
  obtain ⟨r, s, rfl⟩ := hp
  have key : decide (r = s) = ((r.num == s.num) && ((r.den : Int) == s.den)) := by
    rw [Bool.eq_iff_iff]
    simp only [decide_eq_true_eq, Bool.and_eq_true, beq_iff_eq]
    exact eq_iff r s
  refine ds_ret (de_andV (w_isi (.own _) (w_var rfl ⟨kc0 T (.rt s), true, T.kRR, true, rfl, no3, fun _ => ?_⟩)))
  refine de_andV (w_op (e_top T rfl rfl (e_top T rfl rfl (od_eq rfl ⟨_, rfl, fun z => ⟨r, s, rfl, by rw [key, z]; rfl⟩, fun z => ?_⟩))))
  exact w_op (e_bot T rfl rfl (e_bot T rfl rfl (od_eq rfl ⟨r, s, rfl, by rw [key, z]; rfl⟩)))
abbrev sRatioRepr : Stmt := inClass (top 20) 19
abbrev NsRatioRepr : List Str := ["self"]
theorem csRatioRepr : FnScope NsRatioRepr ["self"] (defScope sRatioRepr) := ⟨rfl, rfl, rfl, by decide +kernel, rfl, by decide +kernel, by decide +kernel⟩

def iT (i : Int) : Str := Str.ofString (toString i)
def rpT (r : Rat) : Str := ((((Str.empty ++ Str.ofString "Ratio(") ++ iT r.num) ++ Str.ofString ", ") ++ iT r.den) ++ Str.ofString ")"
theorem log1920 {j : Int} {n : Nat} (h : j.natAbs < 2 ^ n) (h0 : 0 < n) (hn : n ≤ 1900) : j.natAbs.log2 < 1920 :=
  Nat.lt_of_lt_of_le (PySem.Flt.log2_lt_of h0 h) (by omega)
theorem len_i {j : Int} (h : j.natAbs.log2 < 1920) : (iT j).length ≤ 1921 := PyProof.Rows.int_text_len_1921 h
theorem ap_le {x y : Str} {a b c : Nat} (h1 : x.length ≤ a) (h2 : y.length ≤ b) (h : a + b ≤ c) : (x ++ y).length ≤ c := by
  rw [Str.length_append]
  omega
theorem line_of {n : Nat} (h : n ≤ 1000000) : n ≤ sizeLine := Nat.le_trans h (show 1000000 ≤ sizeLine by decide)
def spRepr (C : CT) : Sp := spD C (fun ds => ∃ r, ds = [rt r] ∧ Sz 1900 r) fun ds e => ∃ r, ds = [rt r] ∧ e = .str (rpT r)
theorem ok_repr (T : Txt K mg C) {f : Addr} {fd : FuncData} (F : Fun K "__repr__" "Ratio.__repr__" sRatioRepr f fd) : FnOk P w K mg base CX0 1 f fd ["self"] (spRepr C) := by
  refine F.ok csRatioRepr (spD_len fun ds h => by obtain ⟨r, rfl, _⟩ := h; rfl) (fun cdv A outer s H vs Q E hr h => ⟨_, (pss_one (ps_ret (pe_joined (.cons pe_str (.cons (pe_fmt (pe_fld (pv 0) rfl)) (.cons pe_str (.cons (pe_fmt (pe_fld (pv 0) rfl)) (.cons pe_str .nil)))))))), spD_run h fun ds hp => ?_⟩)
  obtain ⟨r, rfl, hz⟩ := hp
  have l1 := log1920 hz.num (by decide) (Nat.le_refl _)
  have l2 := log1920 hz.den (by decide) (Nat.le_refl _)
  have m1 := len_i l1
  have m2 := len_i l2
  have c0 : (Str.empty ++ Str.ofString "Ratio(").length ≤ 6 := by decide +kernel
  have c1 : (Str.ofString ", ").length ≤ 2 := by decide +kernel
  have c2 : (Str.ofString ")").length ≤ 1 := by decide +kernel
  have g1 := ap_le (c := 1927) c0 m1 (by omega)
  have g2 := ap_le (c := 1929) g1 c1 (by omega)
  have g3 := ap_le (c := 3850) g2 m2 (by omega)
  have g4 := ap_le (c := 3851) g3 c2 (by omega)
  refine ds_ret (js_cons (w_str ⟨_, rfl, line_of (Nat.le_trans c0 (by decide)), ?_⟩))
  refine js_cons (w_fmtI (e_top T rfl rfl ⟨_, rfl, l1, _, rfl, line_of (Nat.le_trans g1 (by decide)), ?_⟩))
  refine js_cons (w_str ⟨_, rfl, line_of (Nat.le_trans g2 (by decide)), ?_⟩)
  refine js_cons (w_fmtI (e_bot T rfl rfl ⟨_, rfl, l2, _, rfl, line_of (Nat.le_trans g3 (by decide)), ?_⟩))
  exact js_cons (w_str ⟨_, rfl, line_of (Nat.le_trans g4 (by decide)), js_nil ⟨r, rfl, rfl⟩⟩)
/-! ### products -/
/-- what n * r asks of the class of ints -/
structure MulI (K : PySem.W.Frag) (C : CT) : Prop where
  ex : ∃ rc fo ro, PySem.W.findIn K (.ref (C 0).1) "__rmul__" = some rc ∧ (rc = none ∨ ∃ g : Addr, rc = some (.ref g)) ∧ PySem.W.findIn K (.type "int") "__mul__" = some fo ∧ PySem.W.findIn K (.type "int") "__rmul__" = some ro ∧ PySem.W.subIn K (.type "int") (.ref (C 0).1) = some false
abbrev sProducts : Stmt := top 25
abbrev NsProducts : List Str := ["numbers", "others", "reckoned", "number", "other"]
theorem csProducts : FnScope NsProducts ["numbers", "others"] (defScope sProducts) := ⟨rfl, rfl, rfl, by decide +kernel, rfl, by decide +kernel, by decide +kernel⟩

def spProd (C : CT) : Sp := spD C (fun ds => ∃ t ws t2 vs, ds = [seqD t ws, seqD t2 vs] ∧ (∀ d ∈ ws, Nm d ∧ Sz 12 (vl d)) ∧ (∀ d ∈ vs, Nm d ∧ Sz 12 (vl d)) ∧ ws.length ≤ 100) fun ds e => ∃ t ws t2 vs, ds = [seqD t ws, seqD t2 vs] ∧ e = rt (dot (ws.map vl) (vs.map vl))
theorem ok_prod (T : Txt K mg C) (MR : MkR P w K mg base C) (DA_ : Df P w K mg base 4 "as_ratio" ["number"] (spAsR C)) (MA : Mt P w K mg base C 0 5 "__add__" ["self", "other"] (spBin C (· + ·))) (MM : Mt P w K mg base C 0 5 "__mul__" ["self", "other"] (spBin C (· * ·)))
    (sf : PySem.W.selfFirst K (C 0).1 = true) (MI0 : MulI K C) {f : Addr} {fd : FuncData} (F : Fun K "products" "products" sProducts f fd) : FnOk P w K mg base CX0 6 f fd ["numbers", "others"] (spProd C) := by
  obtain ⟨rc, fo, ro_, i1, i2, i3, i4, i5⟩ := MI0.ex
  refine F.ok csProducts (spD_len fun ds h => by obtain ⟨t, ws, t2, vs, rfl, _⟩ := h; rfl) (fun cdv A outer s H vs Q E hr h => ⟨_, (pss_cons (ps_set (i := 2) csProducts.nd rfl (Or.inl rfl) (pe_make MR.M MR.G (hr.mono (by decide)) (by rfl) T.mgRatio MR.b1 MR.d1 pass0 (pa_cons pe_int pa_nil)))
      (pss_cons (ps_for PassesOwn.never rfl (pi_zipB (by rfl) T.zip (pa_cons (pv 0) (pa_cons (pv 1) pa_nil))) (pg_tup (by rfl) (pgs_cons (pg_name (i := 3) csProducts.nd rfl (.inl rfl)) (pgs_cons (pg_name (i := 4) csProducts.nd rfl (.inl rfl)) pgs_nil))) (pss_one (ps_set (i := 2) csProducts.nd rfl (Or.inl rfl) (pe_op (op_own2 MA.F hr MA.b sf MA.m.at_ MA.m.fn (E := E0)) (pv 2) (pe_op (OpR.or (op_own2 MM.F hr MM.b sf MM.m.at_ MM.m.fn (E := E0)) (op_ownN MM.F hr MM.b sf MM.m.at_ MM.m.fn i1 i2 i3 i4 i5 (E := E0))) (pe_df DA_ hr (pa_cons (pv 3) pa_nil)) (pv 4))))))
      (pss_one (ps_ret (pv 2))))), spD_run h fun ds hp => ?_⟩)
  obtain ⟨t, ws, t2, us, rfl, hw, hv, hl⟩ := hp
  have h0 : ro NsProducts [seqD t ws, seqD t2 us] = [some (.arg (seqD t ws)), some (.arg (seqD t2 us)), none, none, none] := by cases t <;> cases t2 <;> rfl
  rw [h0]
  refine ds_set (de_make (des := [.int 1]) (fun _ => .cons (.int 1) .nil) (dla_cons (dl_de (w_int (dla_nil ⟨⟨0, 1, rfl, by decide, Nat.lt_of_lt_of_le (by decide : (1 : Int).natAbs < 2 ^ 1) (Nat.pow_le_pow_right (by decide) (by decide))⟩, fun es he => ?_⟩)))))
  obtain ⟨p, q, e, rfl⟩ := he
  cases e
  refine ⟨by rw [T.fR]; rfl, ?_⟩
  refine ds_fors (l := true) (js := [3, 4]) (fun _ i ρ' => ∃ x y, ρ' = [some (.arg (seqD t ws)), some (.arg (seqD t2 us)), some (.val (rt (dotL 0 (ws.take i) (us.take i)))), x, y] ∧ Sz (1 + 25 * i) (dotL 0 (ws.take i) (us.take i))) (dm_zip (dm_arg rfl (dm_arg rfl ⟨t, t2, ws, us, rfl, rfl, ⟨none, none, ?_, ?_⟩, ?_, ?_⟩)))
  · show _ = [_, _, some (Sl.val (rt 0)), none, none]
    rfl
  · rw [show dotL 0 (ws.take 0) (us.take 0) = 0 from rfl]
    exact ⟨by decide, by decide⟩
  · rintro i d ρ' hd ⟨x, y, rfl, hz⟩
    obtain ⟨a, b, ha, hb, rfl⟩ := zipD_get hd
    obtain ⟨na, za⟩ := hw a (List.mem_of_getElem? ha)
    obtain ⟨nb, zb⟩ := hv b (List.mem_of_getElem? hb)
    have il : i < ws.length := (List.getElem?_eq_some_iff.mp ha).1
    refine ⟨_, dg_tup2L, ?_⟩
    have sa : slF true a = some (Sl.val a) := by cases na <;> rfl
    have sb : slF true b = some (Sl.val b) := by cases nb <;> rfl
    rw [sa, sb]
    generalize hD : dotL 0 (ws.take i) (us.take i) = D at hz
    have fin : ∀ e, (∃ r d, [rt D, rt (vl a * vl b)] = [rt r, d] ∧ e = rt (r + vl d)) → ∃ x y, [some (Sl.arg (seqD t ws)), some (.arg (seqD t2 us)), some (.val e), some (.val a), some (.val b)] = [some (Sl.arg (seqD t ws)), some (.arg (seqD t2 us)), some (.val (rt (dotL 0 (ws.take (i + 1)) (us.take (i + 1))))), x, y] ∧ Sz (1 + 25 * (i + 1)) (dotL 0 (ws.take (i + 1)) (us.take (i + 1))) := by
      rintro e ⟨r, d, e1, rfl⟩
      obtain ⟨rfl, rfl⟩ := rt_pair e1
      rw [dotL_snoc ha hb, hD, vl_rt]
      exact ⟨_, _, rfl, (Sz_add hz (Sz_mul za zb)).mono (by omega)⟩
    have pre2 : ∃ r d n, [rt D, rt (vl a * vl b)] = [rt r, d] ∧ Nm d ∧ Sz n r ∧ Sz n (vl d) ∧ 0 < n ∧ n ≤ 4000 := ⟨D, _, 1 + 25 * i + 24, rfl, .rt _, hz.mono (by omega), by rw [vl_rt]; exact (Sz_mul za zb).mono (by omega), by omega, by omega⟩
    refine ds_set1 (w_op (w_var rfl (w_op (c_asR rfl na rfl (w_var rfl ?_)))))
    have pre1 : ∃ r d n, [rt (vl a), b] = [rt r, d] ∧ Nm d ∧ Sz n r ∧ Sz n (vl d) ∧ 0 < n ∧ n ≤ 4000 := ⟨_, b, 12, rfl, nb, za, zb, by decide, by decide⟩
    have post1 : ∀ e, (∃ r d, [rt (vl a), b] = [rt r, d] ∧ e = rt (r * vl d)) → e = rt (vl a * vl b) := by
      rintro e ⟨r, d, e1, rfl⟩
      obtain ⟨rfl, rfl⟩ := rt_pair e1
      rfl
    cases nb with
    | int j => exact od_orR (od_ownN pre1 fun e he => by rw [post1 e he]; exact od_own2 pre2 fin)
    | rt s => exact od_orL (od_own2 pre1 fun e he => by rw [post1 e he]; exact od_own2 pre2 fin)
  · rintro ρ' ⟨x, y, rfl, _⟩
    refine ds_ret (w_var rfl ⟨t, ws, t2, us, rfl, ?_⟩)
    rw [dotL_min (by unfold zipD; simp), dotL_eq, Rat.zero_add]
end
end K13
namespace K13
open PySem L2 GX GD KM
open Evl (Ex)
/-! ### rows -/
/-- a row of n unknowns, as it may be passed -/
structure RowOk (n : Nat) (d : D) : Prop where
  ex : ∃ t ws b, d = .tup [seqD t ws, b] ∧ ws.length = n ∧ (∀ w ∈ ws, Nm w) ∧ Nm b
/-- .. as a Program keeps it; as it tells it -/
def krow (w : List Rat × Rat) : D := .tup [.tup (w.1.map rt), rt w.2]
def trow (w : List Rat × Rat) : D := .tup [.lst (w.1.map rt), rt w.2]
def rv : D → List Rat × Rat
  | .tup [.lst ws, b] => (ws.map vl, vl b)
  | .tup [.tup ws, b] => (ws.map vl, vl b)
  | _ => ([], 0)
theorem rv_seq (t : Bool) (ws : List D) (b : D) : rv (.tup [seqD t ws, b]) = (ws.map vl, vl b) := by cases t <;> rfl
theorem vl_map (rs : List Rat) : (rs.map rt).map vl = rs := by
  rw [List.map_map]
  have : (vl ∘ rt) = id := by funext r; exact vl_rt r
  rw [this, List.map_id]
theorem rv_trow (w : List Rat × Rat) : rv (trow w) = w := by
  show ((w.1.map rt).map vl, vl (rt w.2)) = w
  rw [vl_map, vl_rt]
theorem asR_map (ws : List D) : ws.map asR = (ws.map vl).map rt := by rw [List.map_map]; rfl
theorem row_trow {n : Nat} {w : List Rat × Rat} (h : w.1.length = n) : RowOk n (trow w) := ⟨false, w.1.map rt, rt w.2, rfl, by simp [h], fun d hd => by obtain ⟨r, _, rfl⟩ := List.mem_map.mp hd; exact .rt r, .rt _⟩
/-- a Program -/
def prog (n : Nat) (rows : List (List Rat × Rat)) : D := .ins 1 [.int (n : Int), .lst (rows.map krow)]
def WfP (n : Nat) (rows : List (List Rat × Rat)) : Prop := ∀ w ∈ rows, w.1.length = n
section
variable {P : Program} {w : World} {K : PySem.W.Frag} {mg : Str → Option Value} {base : Heap} {C : CT} {A : Amb} {ρ : Ro} {te : TE} {R : D → Prop}
abbrev sIsRow : Stmt := top 28
abbrev NsIsRow : List Str := ["value", "unknowns"]
theorem csIsRow : FnScope NsIsRow ["value", "unknowns"] (defScope sIsRow) := ⟨rfl, rfl, rfl, by decide +kernel, rfl, by decide +kernel, by decide +kernel⟩

def spRow (C : CT) : Sp := spD C (fun ds => ∃ (d : D) (n : Nat), ds = [d, .int (n : Int)] ∧ RowOk n d ∧ n ≤ 16) fun ds e => e = .bl true
theorem ok_row (T : Txt K mg C) (DAN : Df P w K mg base 3 "are_numbers" ["value", "many"] (spAreN C)) (DN_ : Df P w K mg base 2 "is_number" ["value"] (spIsN C)) {f : Addr} {fd : FuncData} (F : Fun K "is_row" "is_row" sIsRow f fd) : FnOk P w K mg base CX0 4 f fd ["value", "unknowns"] (spRow C) := by
  refine F.ok csIsRow (spD_len fun ds h => by obtain ⟨d, n, rfl, _⟩ := h; rfl) (fun cdv A outer s H vs Q E hr h => ⟨_, (pss_cons (ps_if (PW.pt (pw_or (pt_not (pt_val (pe_callB call_isi (by rfl) T.isinstance (by decide +kernel) (pa_cons (pv 0) (pa_cons (pe_bltn (v := .ty "tuple") (by rfl) T.tuple (by decide +kernel) rfl) pa_nil))))) (pw_or1 (pt_cmpR op_ne (pe_callB call_len_seq (by rfl) T.len PySem.boot_len (pa_cons (pv 0) pa_nil)) pe_int (nomark _))))) (pss_one (ps_ret pe_bl)) pss_nil)
      (pss_one (ps_ret (pe_and (pe_df DAN hr (pa_cons (pe_ix ix_seq (pv 0) pe_int (fun _ _ => rfl)) (pa_cons (pv 1) pa_nil))) (pe_one (pe_df DN_ hr (pa_cons (pe_ix ix_seq (pv 0) pe_int (fun _ _ => rfl)) pa_nil))))))), spD_run h fun ds hp => ?_⟩)
  obtain ⟨d, n, rfl, ⟨t, ws, b, rfl, hl, hw, hb⟩, hn⟩ := hp
  refine ds_ifs (dt_or (dt_not (dt_B (l_isi (.ty _) (dl_arg rfl ⟨nofun, true, kit_ty (by decide +kernel), true, rfl, no1, fun _ => dt_test (w_op (l_len (dl_arg rfl ⟨true, _, rfl, w_int (od_ne rfl ⟨_, rfl, no2, fun _ => ?_⟩)⟩)))⟩)))))
  refine ds_nexts (ds_ret (de_andV (de_call0 (dla_cons (dl_op (dl_arg rfl (dl_de (w_int (ol_orR (ol_orL (ol_ixT (j := 0) rfl rfl (dla_cons (dl_val rfl (dla_nil ⟨⟨t, ws, by rw [hl], hw, by omega⟩, fun e he => ?_⟩))))))))))))))
  cases he
  refine ⟨true, rfl, no3, fun _ => de_call0 (dla_cons (dl_op (dl_arg rfl (dl_de (w_int (ol_orR (ol_orL (ol_ixT (j := 1) rfl rfl (dla_nil ⟨⟨b, rfl, hb⟩, fun e he => by cases he; rfl⟩)))))))))⟩
abbrev sCheckRows : Stmt := top 29
abbrev NsCheckRows : List Str := ["rows", "unknowns", "position", "row"]
theorem csCheckRows : FnScope NsCheckRows ["rows", "unknowns"] (defScope sCheckRows) := ⟨rfl, rfl, rfl, by decide +kernel, rfl, by decide +kernel, by decide +kernel⟩

def spChkR (C : CT) : Sp := spD C (fun ds => ∃ (t : Bool) (rows : List D) (n : Nat), ds = [seqD t rows, .int (n : Int)] ∧ (∀ d ∈ rows, RowOk n d) ∧ n ≤ 16) fun ds e => e = .non
theorem ok_chkR (T : Txt K mg C) (DL_ : Df P w K mg base 1 "is_list" ["value"] (spIsL C)) (DRW : Df P w K mg base 4 "is_row" ["value", "unknowns"] (spRow C)) {f : Addr} {fd : FuncData} (F : Fun K "check_rows" "check_rows" sCheckRows f fd) : FnOk P w K mg base CX0 5 f fd ["rows", "unknowns"] (spChkR C) := by
  refine F.ok csCheckRows (spD_len fun ds h => by obtain ⟨t, rows, n, rfl, _⟩ := h; rfl) (fun cdv A outer s H vs Q E hr h => ⟨_, (pss_cons (ps_if (pt_not (pt_val (pe_df DL_ hr (pa_cons (pv 0) pa_nil)))) (pss_one ps_never) pss_nil)
      (pss_one (ps_for PassesOwn.never rfl (pi_enumA (by rfl) T.enumerate (pa_cons (pv 0) pa_nil)) (pg_tup (by rfl) (pgs_cons (pg_name (i := 2) csCheckRows.nd rfl (.inl rfl)) (pgs_cons (pg_name (i := 3) csCheckRows.nd rfl (.inl rfl)) pgs_nil))) (pss_one (ps_if (pt_not (pt_val (pe_df DRW hr (pa_cons (pv 3) (pa_cons (pv 1) pa_nil))))) (pss_one ps_never) pss_nil))))), spD_run h fun ds hp => ?_⟩)
  obtain ⟨t, rows, n, rfl, hrw, hn⟩ := hp
  have h0 : ro NsCheckRows [seqD t rows, .int (n : Int)] = [some (.arg (seqD t rows)), some (.val (.int (n : Int))), none, none] := by cases t <;> rfl
  rw [h0]
  refine ds_ifs (dt_not (dt_B (de_call0 (dla_cons (dl_arg rfl (dla_nil ⟨⟨t, rows, rfl⟩, fun e he => ?_⟩))))))
  cases he
  refine ⟨true, rfl, no1, fun _ => ds_nexts ?_⟩
  refine ds_for (l := true) (js := [2, 3]) (fun _ i ρ' => ∃ x y, ρ' = [some (.arg (seqD t rows)), some (.val (.int (n : Int))), x, y]) (dm_enum (dm_arg rfl ⟨t, rows, rfl, ⟨none, none, rfl⟩, ?_, fun _ _ => rfl⟩))
  rintro i d ρ' hd ⟨x, y, rfl⟩
  obtain ⟨e, he, rfl⟩ := enumD_get hd
  have hrow := hrw e (List.mem_of_getElem? he)
  refine ⟨_, dg_tup2L, ?_⟩
  have se : slF true e = some (Sl.arg e) := by obtain ⟨t, ws, b, rfl, _⟩ := hrow; rfl
  rw [se]
  exact ds_if (dt_not (dt_B (de_call0 (dla_cons (dl_arg rfl (dla_cons (dl_val rfl (dla_nil ⟨⟨e, n, rfl, hrow, hn⟩, fun z hz => by cases hz; exact ⟨true, rfl, no1, fun _ => ds_next ⟨_, _, rfl⟩⟩⟩))))))))
end
end K13
namespace K13
open PySem L2 GX GD KM
open Evl (Ex)
/-- the constants of the class Program -/
structure Cst (K : PySem.W.Frag) (C : CT) : Prop where
  ex : ∃ mc u v, ClX.CRead K (C 1).1 mc ∧ ClX.CVal K (C 1).1 mc "MOST_UNKNOWNS" (.int 16) u ∧ ClX.CVal K (C 1).1 mc "MOST_ROWS" (.int 24) v
def preP (ds : List D) : Prop := ∃ (n : Nat) (t : Bool) (rows : List D), ds = [.int (n : Int), seqD t rows] ∧ 1 ≤ n ∧ n ≤ 16 ∧ rows.length ≤ 24 ∧ ∀ d ∈ rows, RowOk n d
def postP (ds es : List D) : Prop := ∃ (n : Nat) (t : Bool) (rows : List D), ds = [.int (n : Int), seqD t rows] ∧ es = [.int (n : Int), .lst (rows.map fun d => krow (rv d))]
section
variable {P : Program} {w : World} {K : PySem.W.Frag} {mg : Str → Option Value} {base : Heap} {C : CT} {A : Amb} {ρ : Ro} {te : TE} {R : D → Prop}
abbrev sProgramInit : Stmt := inClass (top 27) 2
abbrev NsProgramInit : List Str := ["self", "unknowns", "rows", "weights", "bound"]
theorem csProgramInit : FnScope NsProgramInit ["self", "unknowns", "rows"] (defScope sProgramInit) := ⟨rfl, rfl, rfl, by decide +kernel, rfl, by decide +kernel, by decide +kernel⟩

theorem ok_initP (T : Txt K mg C) (Z : Cst K C) (DI : Df P w K mg base 1 "is_integer" ["value"] (spIsI C)) (DCR : Df P w K mg base 5 "check_rows" ["rows", "unknowns"] (spChkR C)) (DA_ : Df P w K mg base 4 "as_ratio" ["number"] (spAsR C)) (DAS : Df P w K mg base 5 "as_ratios" ["numbers"] (spAsRs C)) {T0 : List V} {f : Addr} {fd : FuncData}
    (F : FunD K "__init__" "Program.__init__" (defArgs sProgramInit) (defBody sProgramInit) (defScope sProgramInit) T0 [] f fd) : FnOk P w K mg base CX0 6 f fd ["self", "unknowns", "rows"] (spI C 1 preP postP) := by
  obtain ⟨mc, u1, u2, rd, v1, v2⟩ := Z.ex
  refine F.ok csProgramInit (spI_len fun ds h => by obtain ⟨n, t, rows, rfl, _⟩ := h; rfl) (fun cdv A outer s H vs Q E hr h => ⟨_, PSs.nox (pss_cons (ps_if (PW.pt (pw_or (pt_not (pt_val (pe_df DI hr (pa_cons (pv 1) pa_nil)))) (pw_or (pt_cmpR op_lt (pv 1) pe_int (nomark _)) (pw_or1 (pt_cmpR op_gt (pv 1) (ClX.pe_cval (pe_glob (v := .ref (C 1).1) (by rfl) T.mgProgram rfl)) (nomark _)))))) (pss_one ps_never) pss_nil)
      (pss_cons (ps_expr (pe_df DCR hr (pa_cons (pv 2) (pa_cons (pv 1) pa_nil))))
      (pss_cons (ps_if (pt_cmpR op_gt (pe_callB call_len_seq (by rfl) T.len PySem.boot_len (pa_cons (pv 2) pa_nil)) (ClX.pe_cval (pe_glob (v := .ref (C 1).1) (by rfl) T.mgProgram rfl)) (nomark _)) (pss_one ps_never) pss_nil)
      (pss_cons (ps_fld (pv 0) (pv 1) rfl)
      (pss_one (ps_fld (pv 0) (pe_lc (own := [("weights", 3), ("bound", 4)]) (g := gTup K 2 (gCons (gName 3) (gCons (gName 4) gNil))) (tt := tYes) rfl csProgramInit.nd (pi_or (pi_list (pv 2)) (pi_tup (pv 2))) (blkOk_by (N := NsProgramInit) (sc := defScope sProgramInit) (by decide +kernel)) (fun _ _ _ _ _ => pg_tup (by rfl) (pgs_cons (pg_name (i := 3) csProgramInit.nd rfl (.inl rfl)) (pgs_cons (pg_name (i := 4) csProgramInit.nd rfl (.inl rfl)) pgs_nil))) (fun _ _ _ _ _ => pts_nil) (fun _ _ _ _ _ => by exact (pe_tup (pa_cons (pe_callTy (call_tuple_ofK K rfl) (by rfl) T.tuple (by decide +kernel) (pa_cons (pe_df DAS hr (pa_cons (pv 3) pa_nil)) pa_nil)) (pa_cons (pe_df DA_ hr (pa_cons (pv 4) pa_nil)) pa_nil))))) rfl)))))), spI_run h fun a dx ds hp => ?_⟩)
  obtain ⟨n, t, rows, rfl, n1, n16, hl, hrw⟩ := hp
  have h0 : roI NsProgramInit a dx 1 [.int (n : Int), seqD t rows] = [some (.ob a dx 1 []), some (.val (.int (n : Int))), some (.arg (seqD t rows)), none, none] := by cases t <;> rfl
  rw [h0]
  refine ds_ifs <| dt_or <| dt_not <| dt_B <| c_isI rfl (.int _) rfl ⟨true, rfl, no1, fun _ => dt_or <| dt_test <| w_op <| w_var rfl <| w_int <| ob_I0 (k := fun i j => decide (i < j)) rfl ⟨_, rfl, fun z => ?_, fun _ => dt_test <| w_op <| w_var rfl <| w_cval rd v1 <| ob_I0 (k := fun i j => decide (j < i)) rfl ⟨_, rfl, fun z => ?_, fun _ => ?_⟩⟩⟩
  · have := of_decide_eq_true z; omega
  · have := of_decide_eq_true z; omega
  refine ds_nexts <| ds_drop <| de_call0 <| dla_cons <| dl_arg rfl <| dla_cons <| dl_val rfl <| dla_nil ⟨⟨t, rows, n, rfl, hrw, n16⟩, fun e he => ?_⟩
  refine ds_ifs <| dt_test <| w_op <| l_len <| dl_arg rfl ⟨t, rows, rfl, w_cval rd v2 <| ob_I0 (k := fun i j => decide (j < i)) rfl ⟨_, rfl, ⟨fun z => ?_, fun _ => ?_⟩⟩⟩
  · have := of_decide_eq_true z; omega
  refine ds_nexts <| ds_fld rfl T.kP.cl T.nU (k := 0) (by rw [T.fP]; rfl) (by rw [T.fP]; decide) rfl <| w_var rfl ?_
  refine ds_fld1 rfl T.kP.cl T.nW (k := 1) (by rw [T.fP]; rfl) (by rw [T.fP]; decide) rfl <| DF.de <| df_map (l := true) (js := [3, 4]) (fun d => krow (rv d)) <| di_arg (t := t) (es := rows) rfl ⟨by omega, fun i d hd => ?_, ?_⟩
  · obtain ⟨t2, ws, b, rfl, hwl, hw, hb⟩ := hrw d (List.mem_of_getElem? hd)
    refine ⟨_, dg_tup2L, ?_⟩
    have s1 : slF true (seqD t2 ws) = some (.arg (seqD t2 ws)) := by cases t2 <;> rfl
    have s2 : slF true b = some (.val b) := by cases hb <;> rfl
    rw [s1, s2, rv_seq]
    refine de_tup <| w_cons <| e_tuple <| dl_de <| de_call0 <| dla_cons <| dl_arg rfl <| dla_nil ⟨⟨t2, ws, rfl, hw, by omega⟩, fun e he => ?_⟩
    obtain ⟨t3, ws3, e3, rfl⟩ := he
    cases seqD_inj (List.cons.inj e3).1
    refine ⟨false, ws.map asR, rfl, fun d hd => by obtain ⟨x, _, rfl⟩ := List.mem_map.mp hd; rfl, w_cons <| c_asR rfl hb rfl <| da_nil ⟨by show 2 ≤ sizeLine; decide, ?_⟩⟩
    rw [asR_map]
    rfl
  · exact ⟨_, rfl, by rw [T.fP]; rfl, n, t, rows, rfl, rfl⟩
theorem e_unk {i n : Nat} {rows : List (List Rat × Rat)} {R : D → Prop} (T : Txt K mg C) (hA : A.C = C) (h : ρ[i]? = some (some (Sl.val (prog n rows)))) (q : R (.int (n : Int))) : DE A ρ (tFld K (tVar i) "_unknowns") R := by
  subst hA
  exact de_fld (ds := []) (k := 0) T.kP.cl T.nU (by rw [T.fP]; rfl) (by rw [T.fP]; decide) (w_var h ⟨_, rfl, _, rfl, q⟩)
theorem e_rws {i n : Nat} {rows : List (List Rat × Rat)} {R : D → Prop} (T : Txt K mg C) (hA : A.C = C) (h : ρ[i]? = some (some (Sl.val (prog n rows)))) (q : R (.lst (rows.map krow))) : DE A ρ (tFld K (tVar i) "_rows") R := by
  subst hA
  exact de_fld (ds := []) (k := 1) T.kP.cl T.nW (by rw [T.fP]; rfl) (by rw [T.fP]; decide) (w_var h ⟨_, rfl, _, rfl, q⟩)
theorem prog_inj {n m : Nat} {r s : List (List Rat × Rat)} (h : prog n r = prog m s) : n = m ∧ r = s := by
  unfold prog at h
  injection h with _ h
  injection h with h1 h
  injection h with h2 _
  injection h1 with h1
  injection h2 with h2
  refine ⟨by omega, ?_⟩
  have inj : ∀ (r s : List (List Rat × Rat)), r.map krow = s.map krow → r = s := fun r s e => by
    have := congrArg (List.map rv) e
    rw [List.map_map, List.map_map] at this
    have k : (rv ∘ krow) = id := by funext w; show ((w.1.map rt).map vl, vl (rt w.2)) = w; rw [vl_map, vl_rt]
    rw [k, List.map_id, List.map_id] at this
    exact this
  exact inj r s h2
abbrev sProgramUnknowns : Stmt := inClass (top 27) 3
abbrev NsProgramUnknowns : List Str := ["self"]
theorem csProgramUnknowns : FnScope NsProgramUnknowns ["self"] (defScope sProgramUnknowns) := ⟨rfl, rfl, rfl, by decide +kernel, rfl, by decide +kernel, by decide +kernel⟩

def spUnk (C : CT) : Sp := spD C (fun ds => ∃ n rows, ds = [prog n rows]) fun ds e => ∃ (n : Nat) (rows : List (List Rat × Rat)), ds = [prog n rows] ∧ e = .int (n : Int)
theorem ok_unk (T : Txt K mg C) {f : Addr} {fd : FuncData} (F : Fun K "unknowns" "Program.unknowns" sProgramUnknowns f fd) : FnOk P w K mg base CX0 1 f fd ["self"] (spUnk C) := by
  refine F.ok csProgramUnknowns (spD_len fun ds h => by obtain ⟨n, r, rfl⟩ := h; rfl) (fun cdv A outer s H vs Q E hr h => ⟨_, (pss_one (ps_ret (pe_fld (pv 0) rfl))), spD_run h fun ds hp => ?_⟩)
  obtain ⟨n, rows, rfl⟩ := hp
  exact ds_ret (e_unk T rfl rfl ⟨n, rows, rfl, rfl⟩)
abbrev sProgramRows : Stmt := inClass (top 27) 4
abbrev NsProgramRows : List Str := ["self", "weights", "bound"]
theorem csProgramRows : FnScope NsProgramRows ["self"] (defScope sProgramRows) := ⟨rfl, rfl, rfl, by decide +kernel, rfl, by decide +kernel, by decide +kernel⟩

def spRws (C : CT) : Sp := spF C (fun ds => ∃ n rows, ds = [prog n rows] ∧ rows.length ≤ 1000) fun ds e => ∃ (n : Nat) (rows : List (List Rat × Rat)), ds = [prog n rows] ∧ e = .lst (rows.map trow)
theorem ok_rws (T : Txt K mg C) {f : Addr} {fd : FuncData} (F : Fun K "rows" "Program.rows" sProgramRows f fd) : FnOk P w K mg base CX0 1 f fd ["self"] (spRws C) := by
  refine F.ok csProgramRows (spF_len fun ds h => by obtain ⟨n, r, rfl, _⟩ := h; rfl) (fun cdv A outer s H vs Q E hr h => ⟨_, (pss_one (ps_ret (pe_lc (own := [("weights", 1), ("bound", 2)]) (g := gTup K 2 (gCons (gName 1) (gCons (gName 2) gNil))) (tt := tYes) rfl csProgramRows.nd (pi_list (pe_fld (pv 0) rfl)) (blkOk_by (N := NsProgramRows) (sc := defScope sProgramRows) (by decide +kernel)) (fun _ _ _ _ _ => pg_tup (by rfl) (pgs_cons (pg_name (i := 1) csProgramRows.nd rfl (.inl rfl)) (pgs_cons (pg_name (i := 2) csProgramRows.nd rfl (.inl rfl)) pgs_nil))) (fun _ _ _ _ _ => pts_nil) (fun _ _ _ _ _ => by exact (pe_tup (pa_cons (pe_callTy (call_list_ofK K rfl) (by rfl) T.list (by decide +kernel) (pa_cons (pv 1) pa_nil)) (pa_cons (pv 2) pa_nil))))))), spF_run h fun ds hp => ?_⟩)
  obtain ⟨n, rows, rfl, hl⟩ := hp
  refine ds_retN <| dn_lc (l := false) (js := [1, 2]) (fun _ i es => es = (rows.take i).map trow) <| di_list <| e_rws T rfl rfl ⟨_, rfl, ⟨?_, rfl, fun i d es hd he _ => ?_, fun es he => ?_⟩⟩
  · rw [List.length_map]; exact Nat.le_trans hl (show 1000 ≤ sizeLine by decide)
  · rw [List.getElem?_map] at hd
    cases hr2 : rows[i]? with
    | none => rw [hr2] at hd; cases hd
    | some r =>
      rw [hr2] at hd
      cases hd
      refine ⟨_, dg_tup2, dt_yes ⟨fun _ => ?_, fun z => nomatch z⟩⟩
      refine dn_tup <| dna_cons <| dn_df <| f_list <| dl_val rfl ⟨true, r.1.map rt, rfl, map_leaf, map_leaf, dna_cons <| dn_leaf <| w_var rfl ⟨rfl, dna_nil ⟨by show 2 ≤ sizeLine; decide, ?_⟩⟩⟩
      rw [he, List.take_add_one, hr2, List.map_append]
      rfl
  · refine ⟨n, rows, rfl, ?_⟩
    rw [he, List.length_map, List.take_length]
end
end K13
namespace K13
open PySem L2 GX GD KM
open Evl (Ex)
/-- how Program is made -/
structure MkP (P : Program) (w : World) (K : PySem.W.Frag) (mg : Str → Option Value) (base : Heap) (C : CT) where
  f : Addr
  fd : FuncData
  ds : List Value
  M : Mk K (C 1).1 f
  G : FnOk P w K mg base CX0 6 f fd ["self", "unknowns", "rows"] (spI C 1 preP postP)
  b2 : Binds K fd ["self", "unknowns", "rows"] []
section
variable {P : Program} {w : World} {K : PySem.W.Frag} {mg : Str → Option Value} {base : Heap} {C : CT} {A : Amb} {ρ : Ro} {te : TE} {tl : TA} {R : D → Prop}
theorem ct_trow (rows : List (List Rat × Rat)) : (rows.map trow).map (fun d => krow (rv d)) = rows.map krow := by
  rw [List.map_map]
  congr 1
  funext w
  show krow (rv (trow w)) = krow w
  rw [rv_trow]
/-- Program(..): what comes -/
theorem e_make {n : Nat} {t : Bool} {rows : List D} {R : D → Prop} (T : Txt K mg C) (hp : preP [.int (n : Int), seqD t rows]) (r : R (prog n (rows.map rv))) : preP ([.int (n : Int), seqD t rows] ++ []) ∧ ∀ es, postP ([.int (n : Int), seqD t rows] ++ []) es → es.length = (C 1).2.length ∧ R (.ins 1 es) := by
  refine ⟨hp, fun es he => ?_⟩
  obtain ⟨m, t2, rows2, e, rfl⟩ := he
  obtain ⟨e1, e2⟩ := List.cons.inj e
  obtain ⟨e3, _⟩ := List.cons.inj e2
  cases seqD_inj e3
  injection e1 with e1
  have : n = m := by omega
  subst this
  refine ⟨by rw [T.fP]; rfl, ?_⟩
  unfold prog at r
  rw [List.map_map] at r
  exact r
abbrev sProgramLen : Stmt := inClass (top 27) 5
abbrev NsProgramLen : List Str := ["self"]
theorem csProgramLen : FnScope NsProgramLen ["self"] (defScope sProgramLen) := ⟨rfl, rfl, rfl, by decide +kernel, rfl, by decide +kernel, by decide +kernel⟩

def spLen (C : CT) : Sp := spD C (fun ds => ∃ n rows, ds = [prog n rows]) fun ds e => ∃ (n : Nat) (rows : List (List Rat × Rat)), ds = [prog n rows] ∧ e = .int (rows.length : Int)
theorem ok_len (T : Txt K mg C) {f : Addr} {fd : FuncData} (F : Fun K "__len__" "Program.__len__" sProgramLen f fd) : FnOk P w K mg base CX0 1 f fd ["self"] (spLen C) := by
  refine F.ok csProgramLen (spD_len fun ds h => by obtain ⟨n, r, rfl⟩ := h; rfl) (fun cdv A outer s H vs Q E hr h => ⟨_, (pss_one (ps_ret (pe_callB call_len_seq (by rfl) T.len PySem.boot_len (pa_cons (pe_fld (pv 0) rfl) pa_nil)))), spD_run h fun ds hp => ?_⟩)
  obtain ⟨n, rows, rfl⟩ := hp
  exact ds_ret <| l_len <| dl_de <| e_rws T rfl rfl ⟨false, _, rfl, n, rows, rfl, by rw [List.length_map]⟩
abbrev sProgramCheckPosition : Stmt := inClass (top 27) 14
abbrev NsProgramCheckPosition : List Str := ["self", "position"]
theorem csProgramCheckPosition : FnScope NsProgramCheckPosition ["self", "position"] (defScope sProgramCheckPosition) := ⟨rfl, rfl, rfl, by decide +kernel, rfl, by decide +kernel, by decide +kernel⟩

def spCP (C : CT) : Sp := spD C (fun ds => ∃ (n : Nat) (rows : List (List Rat × Rat)) (i : Nat), ds = [prog n rows, .int (i : Int)] ∧ i < rows.length) fun ds e => e = .non
theorem ok_chkP (T : Txt K mg C) (DPB : Df P w K mg base 3 "is_place_below" ["value", "places"] (spIsPB C)) {f : Addr} {fd : FuncData} (F : Fun K "_check_position" "Program._check_position" sProgramCheckPosition f fd) : FnOk P w K mg base CX0 4 f fd ["self", "position"] (spCP C) := by
  refine F.ok csProgramCheckPosition (spD_len fun ds h => by obtain ⟨n, r, i, rfl, _⟩ := h; rfl) (fun cdv A outer s H vs Q E hr h => ⟨_, (pss_one (ps_if (pt_not (pt_val (pe_df DPB hr (pa_cons (pv 1) (pa_cons (pe_callB call_len_seq (by rfl) T.len PySem.boot_len (pa_cons (pe_fld (pv 0) rfl) pa_nil)) pa_nil))))) (pss_one ps_never) pss_nil)), spD_run h fun ds hp => ?_⟩)
  obtain ⟨n, rows, i, rfl, hi⟩ := hp
  refine ds_if <| dt_not <| dt_B <| de_call0 <| dla_cons <| dl_val rfl <| dla_cons <| dl_de <| l_len <| dl_de <| e_rws T rfl rfl ⟨false, _, rfl, dla_nil ⟨⟨i, _, rfl⟩, fun e he => ?_⟩⟩
  obtain ⟨i', m', e1, rfl⟩ := he
  cases e1
  refine ⟨true, ?_, no1, fun _ => ds_next rfl⟩
  rw [List.length_map, decide_eq_true (by omega : (0 : Int) ≤ (i : Int)), decide_eq_true (by omega : ((i : Nat) : Int) < (rows.length : Int))]
  rfl
theorem c_chk {i j k n : Nat} {rows : List (List Rat × Rat)} {R : D → Prop} (hA : A.C = C) (nn : ("_check_position" : Str) ∉ (C 1).2) (h1 : ρ[i]? = some (some (Sl.val (prog n rows)))) (h2 : ρ[j]? = some (some (Sl.val (.int (k : Int))))) (hk : k < rows.length) (r : R .non) : DE A ρ (tMeth (C 1).1 "_check_position" (spCP C) [] E0 (tVar i) (tCons (tVar j) tNil)) R := by
  subst hA
  exact de_meth (des := []) nn (fun _ => .nil) <| w_var h1 ⟨_, rfl, dla_cons <| dl_val h2 <| dla_nil ⟨⟨n, rows, k, rfl, hk⟩, fun d hd => by cases hd; exact r⟩⟩
theorem c_rws {i n : Nat} {rows : List (List Rat × Rat)} {R : D → Prop} (hA : A.C = C) (nn : ("rows" : Str) ∉ (C 1).2) (h1 : ρ[i]? = some (some (Sl.val (prog n rows)))) (hl : rows.length ≤ 1000) (r : R (.lst (rows.map trow))) : DN A ρ (tMeth (C 1).1 "rows" (spRws C) [] E0 (tVar i) tNil) R := by
  subst hA
  refine dn_meth (des := []) nn (fun _ => .nil) <| w_var h1 ⟨_, rfl, dla_nil ⟨⟨n, rows, rfl, hl⟩, fun d hd => ?_⟩⟩
  obtain ⟨m, rows2, e, rfl⟩ := hd
  cases (prog_inj (List.cons.inj e).1).2
  exact r
theorem no_chk (T : Txt K mg C) : ("_check_position" : Str) ∉ (C 1).2 := by rw [T.fP]; decide +kernel
theorem no_rws (T : Txt K mg C) : ("rows" : Str) ∉ (C 1).2 := by rw [T.fP]; decide +kernel
abbrev sProgramGetitem : Stmt := inClass (top 27) 6
abbrev NsProgramGetitem : List Str := ["self", "at", "weights", "bound"]
theorem csProgramGetitem : FnScope NsProgramGetitem ["self", "at"] (defScope sProgramGetitem) := ⟨rfl, rfl, rfl, by decide +kernel, rfl, by decide +kernel, by decide +kernel⟩

def spGet (C : CT) : Sp := spF C (fun ds => ∃ (n : Nat) (rows : List (List Rat × Rat)) (i : Nat), ds = [prog n rows, .int (i : Int)] ∧ i < rows.length) fun ds e => ∃ (n : Nat) (rows : List (List Rat × Rat)) (i : Nat) (r : List Rat × Rat), ds = [prog n rows, .int (i : Int)] ∧ rows[i]? = some r ∧ e = trow r
theorem ok_get (T : Txt K mg C) (M_chk : Mt P w K mg base C 1 4 "_check_position" ["self", "position"] (spCP C)) {f : Addr} {fd : FuncData} (F : Fun K "__getitem__" "Program.__getitem__" sProgramGetitem f fd) : FnOk P w K mg base CX0 5 f fd ["self", "at"] (spGet C) := by
  refine F.ok csProgramGetitem (spF_len fun ds h => by obtain ⟨n, r, i, rfl, _⟩ := h; rfl) (fun cdv A outer s H vs Q E hr h => ⟨_, (pss_cons (ps_expr (pe_mt M_chk hr (pv 0) (pa_cons (pv 1) pa_nil)))
      (pss_cons (ps_asg (pe_ix ix_seq (pe_fld (pv 0) rfl) (pv 1) (fun _ _ => rfl)) (pg_tup (by rfl) (pgs_cons (pg_name (i := 2) csProgramGetitem.nd rfl (.inl rfl)) (pgs_cons (pg_name (i := 3) csProgramGetitem.nd rfl (.inl rfl)) pgs_nil))))
      (pss_one (ps_ret (pe_tup (pa_cons (pe_callTy call_list_of (by rfl) T.list (by decide +kernel) (pa_cons (pv 2) pa_nil)) (pa_cons (pv 3) pa_nil))))))), spF_run h fun ds hp => ?_⟩)
  obtain ⟨n, rows, i, rfl, hi⟩ := hp
  refine ds_drop <| c_chk rfl (no_chk T) rfl rfl hi ?_
  have hr2 : rows[i]? = some rows[i] := List.getElem?_eq_getElem hi
  refine ds_asg (js := [2, 3]) <| w_op <| e_rws T rfl rfl <| w_var rfl <| od_orL <| od_ixL (ixN_of (by rw [List.length_map]; exact hi)) (by rw [List.getElem?_map, hr2]; rfl) ⟨_, dg_tup2, ?_⟩
  exact ds_retN <| dn_tup <| dna_cons <| dn_df <| f_list <| dl_val rfl ⟨true, rows[i].1.map rt, rfl, map_leaf, map_leaf, dna_cons <| dn_leaf <| w_var rfl ⟨rfl, dna_nil ⟨by show 2 ≤ sizeLine; decide, n, rows, i, rows[i], rfl, hr2, rfl⟩⟩⟩
abbrev sProgramAdd : Stmt := inClass (top 27) 8
abbrev NsProgramAdd : List Str := ["self", "other"]
theorem csProgramAdd : FnScope NsProgramAdd ["self", "other"] (defScope sProgramAdd) := ⟨rfl, rfl, rfl, by decide +kernel, rfl, by decide +kernel, by decide +kernel⟩

def spAddP (C : CT) : Sp := spD C (fun ds => ∃ (n : Nat) (rows : List (List Rat × Rat)) (d : D), ds = [prog n rows, d] ∧ RowOk n d ∧ 1 ≤ n ∧ n ≤ 16 ∧ rows.length < 24 ∧ WfP n rows) fun ds e => ∃ (n : Nat) (rows : List (List Rat × Rat)) (d : D), ds = [prog n rows, d] ∧ e = prog n (rows ++ [rv d])
theorem row_all {n : Nat} {rows : List (List Rat × Rat)} (h : WfP n rows) : ∀ d ∈ rows.map trow, RowOk n d := fun d hd => by
  obtain ⟨r, hr, rfl⟩ := List.mem_map.mp hd
  exact row_trow (h r hr)
theorem rv_rows (rows : List (List Rat × Rat)) : (rows.map trow).map rv = rows := by
  rw [List.map_map]
  have : (rv ∘ trow) = id := by funext w; exact rv_trow w
  rw [this, List.map_id]
theorem ok_addP (T : Txt K mg C) (MP : MkP P w K mg base C) (M_rows : Mt P w K mg base C 1 1 "rows" ["self"] (spRws C)) (DRW : Df P w K mg base 4 "is_row" ["value", "unknowns"] (spRow C)) {f : Addr} {fd : FuncData} (F : Fun K "__add__" "Program.__add__" sProgramAdd f fd) : FnOk P w K mg base CX0 8 f fd ["self", "other"] (spAddP C) := by
  refine F.ok csProgramAdd (spD_len fun ds h => by obtain ⟨n, r, i, rfl, _⟩ := h; rfl) (fun cdv A outer s H vs Q E hr h => ⟨_, (pss_cons (ps_if (pt_not (pt_val (pe_df DRW hr (pa_cons (pv 1) (pa_cons (pe_fld (pv 0) rfl) pa_nil))))) (pss_one ps_never) pss_nil)
      (pss_one (ps_ret (pe_make MP.M MP.G hr (by rfl) T.mgProgram MP.b2 .nil pass0 (pa_cons (pe_fld (pv 0) rfl) (pa_cons (pe_op op_cat (pe_mt0 M_rows hr (pv 0)) (pe_lst (pa_cons (pv 1) pa_nil))) pa_nil)))))), spD_run h fun ds hp => ?_⟩)
  obtain ⟨n, rows, d, rfl, hd, n1, n16, hl, hw⟩ := hp
  have h1 : (ro NsProgramAdd [prog n rows, d])[1]? = some (some (Sl.arg d)) := by obtain ⟨t, ws, b, rfl, _⟩ := hd; rfl
  refine ds_ifs <| dt_not <| dt_B <| de_call0 <| dla_cons <| dl_arg h1 <| dla_cons <| dl_de <| e_unk T rfl rfl <| dla_nil ⟨⟨d, n, rfl, hd, n16⟩, fun e he => ?_⟩
  cases he
  refine ⟨true, rfl, no1, fun _ => ds_nexts ?_⟩
  refine ds_ret <| de_make (des := []) (fun _ => .nil) <| dla_cons <| dl_de <| e_unk T rfl rfl <| dla_cons <| dl_op <| dl_de <| DN.de <| c_rws rfl (no_rws T) rfl (by omega) <| dl_lst <| dla_cons <| dl_arg h1 <| dla_nil ⟨by show 1 ≤ sizeLine; decide, ol_cat (by rw [List.length_map]; simp; omega) <| dla_nil (e_make (t := false) T ⟨n, false, _, rfl, n1, n16, by simp; omega, fun x hx => ?_⟩ ⟨n, rows, d, rfl, ?_⟩)⟩
  · rcases List.mem_append.mp hx with hx | hx
    · exact row_all hw x hx
    · cases List.mem_singleton.mp hx; exact hd
  · rw [List.map_append, rv_rows]
    rfl
end
end K13
namespace K13
open PySem L2 GX GD KM
open Evl (Ex)
theorem cut_to {ds : List D} {p : Nat} (h : p ≤ ds.length) : cutD ds none (some (p : Int)) = ds.take p := by
  unfold cutD
  rw [HT.sIx_none, HT.sIx_nat, List.drop_zero, Nat.sub_zero, Nat.min_eq_left h]
theorem cut_from {ds : List D} {p : Nat} (h : p ≤ ds.length) : cutD ds (some (p : Int)) none = ds.drop p := by
  unfold cutD
  rw [HT.sIx_none, HT.sIx_nat, Nat.min_eq_left h]
  exact List.take_of_length_le (by rw [List.length_drop]; exact Nat.le_refl _)
section
variable {P : Program} {w : World} {K : PySem.W.Frag} {mg : Str → Option Value} {base : Heap} {C : CT} {A : Amb} {ρ : Ro} {te : TE} {tl : TA} {R : D → Prop}
theorem mem_takes {rows : List (List Rat × Rat)} {n i : Nat} (h : WfP n rows) : (∀ d ∈ (rows.map trow).take i, RowOk n d) ∧ ∀ d ∈ (rows.map trow).drop i, RowOk n d :=
  ⟨fun d hd => row_all h d (List.mem_of_mem_take hd), fun d hd => row_all h d (List.mem_of_mem_drop hd)⟩
abbrev sProgramWithout : Stmt := inClass (top 27) 9
abbrev NsProgramWithout : List Str := ["self", "position", "rows"]
theorem csProgramWithout : FnScope NsProgramWithout ["self", "position"] (defScope sProgramWithout) := ⟨rfl, rfl, rfl, by decide +kernel, rfl, by decide +kernel, by decide +kernel⟩

def spWo (C : CT) : Sp := spD C (fun ds => ∃ (n : Nat) (rows : List (List Rat × Rat)) (i : Nat), ds = [prog n rows, .int (i : Int)] ∧ i < rows.length ∧ 1 ≤ n ∧ n ≤ 16 ∧ rows.length ≤ 24 ∧ WfP n rows) fun ds e => ∃ (n : Nat) (rows : List (List Rat × Rat)) (i : Nat), ds = [prog n rows, .int (i : Int)] ∧ e = prog n (rows.take i ++ rows.drop (i + 1))
theorem ok_wo (T : Txt K mg C) (MP : MkP P w K mg base C) (M_rows : Mt P w K mg base C 1 1 "rows" ["self"] (spRws C)) (M_chk : Mt P w K mg base C 1 4 "_check_position" ["self", "position"] (spCP C)) {f : Addr} {fd : FuncData} (F : Fun K "without" "Program.without" sProgramWithout f fd) : FnOk P w K mg base CX0 8 f fd ["self", "position"] (spWo C) := by
  refine F.ok csProgramWithout (spD_len fun ds h => by obtain ⟨n, r, i, rfl, _⟩ := h; rfl) (fun cdv A outer s H vs Q E hr h => ⟨_, (pss_cons (ps_expr (pe_mt M_chk hr (pv 0) (pa_cons (pv 1) pa_nil)))
      (pss_cons (ps_set (i := 2) csProgramWithout.nd rfl (Or.inl rfl) (pe_mt0 M_rows hr (pv 0)))
      (pss_one (ps_ret (pe_make MP.M MP.G hr (by rfl) T.mgProgram MP.b2 .nil pass0 (pa_cons (pe_fld (pv 0) rfl) (pa_cons (pe_op op_cat (pe_slice sl_list (pv 2) po_none (po_some (pv 1))) (pe_slice sl_list (pv 2) (po_some (pe_op op_add (pv 1) pe_int)) po_none)) pa_nil))))))), spD_run h fun ds hp => ?_⟩)
  obtain ⟨n, rows, i, rfl, hi, n1, n16, hl, hw⟩ := hp
  refine ds_drop <| c_chk rfl (no_chk T) rfl rfl hi ?_
  refine ds_set <| DN.de <| c_rws rfl (no_rws T) rfl (by omega) ?_
  have il : i ≤ (rows.map trow).length := by rw [List.length_map]; omega
  have il2 : i + 1 ≤ (rows.map trow).length := by rw [List.length_map]; omega
  refine ds_ret <| de_make (des := []) (fun _ => .nil) <| dla_cons <| dl_de <| e_unk T rfl rfl <| dla_cons <| dl_op <| dl_de <| w_slL <| w_var rfl ⟨_, rfl, do_none <| do_some <| w_var rfl ⟨_, rfl, dl_de <| w_slL <| w_var rfl ⟨_, rfl, do_some <| w_op <| w_var rfl <| w_int <| oi_I0 (k := (· + ·)) rfl ⟨((i + 1 : Nat) : Int), by simp, do_none ?_⟩⟩⟩⟩
  rw [cut_to il, cut_from il2]
  refine ol_cat (by rw [List.length_take, List.length_drop, List.length_map]; omega) <| dla_nil (e_make (t := false) T ⟨n, false, _, rfl, n1, n16, by rw [List.length_append, List.length_take, List.length_drop, List.length_map]; omega, fun x hx => ?_⟩ ⟨n, rows, i, rfl, ?_⟩)
  · rcases List.mem_append.mp hx with hx | hx
    · exact (mem_takes hw).1 x hx
    · exact (mem_takes hw).2 x hx
  · rw [List.map_append, List.map_take, List.map_drop, rv_rows]
abbrev sProgramWithBound : Stmt := inClass (top 27) 10
abbrev NsProgramWithBound : List Str := ["self", "position", "number", "rows", "weights", "_"]
theorem csProgramWithBound : FnScope NsProgramWithBound ["self", "position", "number"] (defScope sProgramWithBound) := ⟨rfl, rfl, rfl, by decide +kernel, rfl, by decide +kernel, by decide +kernel⟩

def spWb (C : CT) : Sp := spD C (fun ds => ∃ (n : Nat) (rows : List (List Rat × Rat)) (i : Nat) (d : D), ds = [prog n rows, .int (i : Int), d] ∧ i < rows.length ∧ Nm d ∧ 1 ≤ n ∧ n ≤ 16 ∧ rows.length ≤ 24 ∧ WfP n rows) fun ds e => ∃ (n : Nat) (rows : List (List Rat × Rat)) (i : Nat) (d : D) (r : List Rat × Rat), ds = [prog n rows, .int (i : Int), d] ∧ rows[i]? = some r ∧ e = prog n ((rows.take i ++ [(r.1, vl d)]) ++ rows.drop (i + 1))
theorem ok_wb (T : Txt K mg C) (MP : MkP P w K mg base C) (M_rows : Mt P w K mg base C 1 1 "rows" ["self"] (spRws C)) (M_chk : Mt P w K mg base C 1 4 "_check_position" ["self", "position"] (spCP C)) (DCN : Df P w K mg base 3 "check_number" ["number"] (spChk C)) {f : Addr} {fd : FuncData} (F : Fun K "with_bound" "Program.with_bound" sProgramWithBound f fd) : FnOk P w K mg base CX0 8 f fd ["self", "position", "number"] (spWb C) := by
  refine F.ok csProgramWithBound (spD_len fun ds h => by obtain ⟨n, r, i, d, rfl, _⟩ := h; rfl) (fun cdv A outer s H vs Q E hr h => ⟨_, (pss_cons (ps_expr (pe_mt M_chk hr (pv 0) (pa_cons (pv 1) pa_nil)))
      (pss_cons (ps_expr (pe_df DCN hr (pa_cons (pv 2) pa_nil)))
      (pss_cons (ps_set (i := 3) csProgramWithBound.nd rfl (Or.inl rfl) (pe_mt0 M_rows hr (pv 0)))
      (pss_cons (ps_asg (pe_ix ix_seq (pv 3) (pv 1) (fun _ _ => rfl)) (pg_tup (by rfl) (pgs_cons (pg_name (i := 4) csProgramWithBound.nd rfl (.inl rfl)) (pgs_cons (pg_name (i := 5) csProgramWithBound.nd rfl (.inl rfl)) pgs_nil))))
      (pss_one (ps_ret (pe_make MP.M MP.G hr (by rfl) T.mgProgram MP.b2 .nil pass0 (pa_cons (pe_fld (pv 0) rfl) (pa_cons (pe_op op_cat (pe_op op_cat (pe_slice sl_list (pv 3) po_none (po_some (pv 1))) (pe_lst (pa_cons (pe_tup (pa_cons (pv 4) (pa_cons (pv 2) pa_nil))) pa_nil))) (pe_slice sl_list (pv 3) (po_some (pe_op op_add (pv 1) pe_int)) po_none)) pa_nil))))))))), spD_run h fun ds hp => ?_⟩)
  obtain ⟨n, rows, i, d, rfl, hi, hd, n1, n16, hl, hw⟩ := hp
  have h0 : ro NsProgramWithBound [prog n rows, .int (i : Int), d] = [some (.val (prog n rows)), some (.val (.int (i : Int))), some (.val d), none, none, none] := by cases hd <;> rfl
  rw [h0]
  have hr2 : rows[i]? = some rows[i] := List.getElem?_eq_getElem hi
  refine ds_drop <| c_chk rfl (no_chk T) rfl rfl hi ?_
  refine ds_drop <| de_call0 <| dla_cons <| dl_val rfl <| dla_nil ⟨⟨d, rfl, hd⟩, fun e he => ?_⟩
  refine ds_set <| DN.de <| c_rws rfl (no_rws T) rfl (by omega) ?_
  refine ds_asg (js := [4, 5]) <| w_op <| w_var rfl <| w_var rfl <| od_orL <| od_ixL (ixN_of (by rw [List.length_map]; exact hi)) (by rw [List.getElem?_map, hr2]; rfl) ⟨_, dg_tup2, ?_⟩
  have il : i ≤ (rows.map trow).length := by rw [List.length_map]; omega
  have il2 : i + 1 ≤ (rows.map trow).length := by rw [List.length_map]; omega
  refine ds_ret <| de_make (des := []) (fun _ => .nil) <| dla_cons <| dl_de <| e_unk T rfl rfl <| dla_cons <| dl_op <| dl_op <| dl_de <| w_slL <| w_var rfl ⟨_, rfl, do_none <| do_some <| w_var rfl ⟨_, rfl, ?_⟩⟩
  rw [cut_to il]
  refine dl_lst <| dla_cons <| dl_tup <| dla_cons <| dl_val rfl <| dla_cons <| dl_val rfl <| dla_nil ⟨by show 2 ≤ sizeLine; decide, dla_nil ⟨by show 1 ≤ sizeLine; decide, ?_⟩⟩
  refine ol_cat (by rw [List.length_take]; simp; omega) <| dl_de <| w_slL <| w_var rfl ⟨_, rfl, do_some <| w_op <| w_var rfl <| w_int <| oi_I0 (k := (· + ·)) rfl ⟨((i + 1 : Nat) : Int), by simp, do_none ?_⟩⟩
  rw [cut_from il2]
  refine ol_cat (by simp; omega) <| dla_nil (e_make (t := false) T ⟨n, false, _, rfl, n1, n16, by simp; omega, fun x hx => ?_⟩ ⟨n, rows, i, d, rows[i], rfl, hr2, ?_⟩)
  · rcases List.mem_append.mp hx with hx | hx
    · rcases List.mem_append.mp hx with hx | hx
      · exact (mem_takes hw).1 x hx
      · cases List.mem_singleton.mp hx
        exact ⟨false, rows[i].1.map rt, d, rfl, by rw [List.length_map]; exact hw _ (List.getElem_mem hi), fun q hq => by obtain ⟨r, _, rfl⟩ := List.mem_map.mp hq; exact .rt r, hd⟩
    · exact (mem_takes hw).2 x hx
  · rw [List.map_append, List.map_append, List.map_take, List.map_drop, rv_rows]
    show prog n ((rows.take i ++ [((rows[i].1.map rt).map vl, vl d)]) ++ rows.drop (i + 1)) = _
    rw [vl_map]
abbrev sProgramSums : Stmt := inClass (top 27) 11
abbrev NsProgramSums : List Str := ["self", "values", "weights", "bound"]
theorem csProgramSums : FnScope NsProgramSums ["self", "values"] (defScope sProgramSums) := ⟨rfl, rfl, rfl, by decide +kernel, rfl, by decide +kernel, by decide +kernel⟩

def spSums (C : CT) : Sp := spF C (fun ds => ∃ (n : Nat) (rows : List (List Rat × Rat)) (t : Bool) (us : List D), ds = [prog n rows, seqD t us] ∧ us.length = n ∧ n ≤ 16 ∧ rows.length ≤ 24 ∧ (∀ d ∈ us, Nm d ∧ Sz 12 (vl d)) ∧ WfP n rows ∧ ∀ r ∈ rows, ∀ q ∈ r.1, Sz 12 q) fun ds e => ∃ (n : Nat) (rows : List (List Rat × Rat)) (t : Bool) (us : List D), ds = [prog n rows, seqD t us] ∧ e = .lst (rows.map fun r => rt (dot r.1 (us.map vl)))
theorem ok_sums (T : Txt K mg C) (DAN : Df P w K mg base 3 "are_numbers" ["value", "many"] (spAreN C)) (DPR : Df P w K mg base 6 "products" ["numbers", "others"] (spProd C)) {f : Addr} {fd : FuncData} (F : Fun K "sums" "Program.sums" sProgramSums f fd) : FnOk P w K mg base CX0 7 f fd ["self", "values"] (spSums C) := by
  refine F.ok csProgramSums (spF_len fun ds h => by obtain ⟨n, r, t, us, rfl, _⟩ := h; rfl) (fun cdv A outer s H vs Q E hr h => ⟨_, (pss_cons (ps_if (pt_not (pt_val (pe_df DAN hr (pa_cons (pv 1) (pa_cons (pe_fld (pv 0) rfl) pa_nil))))) (pss_one ps_never) pss_nil)
      (pss_one (ps_ret (pe_lc (own := [("weights", 2), ("bound", 3)]) (g := gTup K 2 (gCons (gName 2) (gCons (gName 3) gNil))) (tt := tYes) rfl csProgramSums.nd (pi_list (pe_fld (pv 0) rfl)) (blkOk_by (N := NsProgramSums) (sc := defScope sProgramSums) (by decide +kernel)) (fun _ _ _ _ _ => pg_tup (by rfl) (pgs_cons (pg_name (i := 2) csProgramSums.nd rfl (.inl rfl)) (pgs_cons (pg_name (i := 3) csProgramSums.nd rfl (.inl rfl)) pgs_nil))) (fun _ _ _ _ _ => pts_nil) (fun _ _ _ _ _ => by exact (pe_df DPR hr (pa_cons (pv 2) (pa_cons (pv 1) pa_nil)))))))), spF_run h fun ds hp => ?_⟩)
  obtain ⟨n, rows, t, us, rfl, hu, n16, hl, hus, hw, hz⟩ := hp
  have h0 : ro NsProgramSums [prog n rows, seqD t us] = [some (.val (prog n rows)), some (.arg (seqD t us)), none, none] := by cases t <;> rfl
  rw [h0]
  refine ds_ifs <| dt_not <| dt_B <| de_call0 <| dla_cons <| dl_arg rfl <| dla_cons <| dl_de <| e_unk T rfl rfl <| dla_nil ⟨⟨t, us, by rw [hu], fun d hd => (hus d hd).1, by omega⟩, fun e he => ?_⟩
  cases he
  refine ⟨true, rfl, no1, fun _ => ds_nexts ?_⟩
  refine ds_retN <| dn_df <| df_map (l := false) (js := [2, 3]) (fun d => rt (dot (rv d).1 (us.map vl))) <| di_list <| e_rws T rfl rfl ⟨_, rfl, by rw [List.length_map]; omega, fun i d hd => ?_, fun d hd => ?_, n, rows, t, us, rfl, ?_⟩
  · rw [List.getElem?_map] at hd
    cases hr2 : rows[i]? with
    | none => rw [hr2] at hd; cases hd
    | some r =>
      rw [hr2] at hd
      cases hd
      have hm := List.mem_of_getElem? hr2
      refine ⟨_, dg_tup2, de_call0 <| dla_cons <| dl_val rfl <| dla_cons <| dl_arg rfl <| dla_nil ⟨⟨true, r.1.map rt, t, us, rfl, fun q hq => ?_, hus, by rw [List.length_map, hw r hm]; omega⟩, fun e he => ?_⟩⟩
      · obtain ⟨x, hx, rfl⟩ := List.mem_map.mp hq
        exact ⟨.rt x, by rw [vl_rt]; exact hz r hm x hx⟩
      · obtain ⟨t2, ws2, t3, vs3, e1, rfl⟩ := he
        obtain ⟨e2, e3⟩ := List.cons.inj e1
        cases seqD_inj (t := true) e2
        cases seqD_inj (List.cons.inj e3).1
        rfl
  · obtain ⟨x, _, rfl⟩ := List.mem_map.mp hd; rfl
  · rw [List.map_map]
    congr 1
    apply List.map_congr_left
    intro r _
    show rt (dot ((r.1.map rt).map vl) (us.map vl)) = _
    rw [vl_map]
end
end K13
namespace K13
open PySem L2 GX GD KM PyProof.Rows
open Evl (Ex)
def oeR : Nat → List D → List D → Bool := fun _ ds es => match ds, es with
  | [.int p, .int q], [.int p', .int q'] => (p == p') && (q == q')
  | _, _ => false
theorem oeR_rt (r s : Rat) : eqd oeR (rt r) (rt s) = decide (r = s) := by
  show ((r.num == s.num) && ((r.den : Int) == s.den)) = _
  rw [Bool.eq_iff_iff]
  simp only [decide_eq_true_eq, Bool.and_eq_true, beq_iff_eq]
  exact (eq_iff r s).symm
theorem eqdL_map {α : Type} [DecidableEq α] (f : α → D) (h : ∀ a b, eqd oeR (f a) (f b) = decide (a = b)) : ∀ (xs ys : List α), (eqdL oeR (xs.map f) (ys.map f) && (xs.map f).length == (ys.map f).length) = decide (xs = ys)
  | [], [] => by simp [eqdL]
  | [], _ :: _ => by simp [eqdL]
  | _ :: _, [] => by simp [eqdL]
  | x :: xs, y :: ys => by
    have ih := eqdL_map f h xs ys
    rw [List.map_cons, List.map_cons, eqdL, h, List.length_cons, List.length_cons]
    by_cases hxy : x = y
    · subst hxy
      simp only [decide_true, Bool.true_and]
      have e : (((xs.map f).length + 1 == (ys.map f).length + 1)) = ((xs.map f).length == (ys.map f).length) := by simp
      rw [e, ih]
      simp
    · simp [hxy]
theorem eqd_krow (a b : List Rat × Rat) : eqd oeR (krow a) (krow b) = decide (a = b) := by
  show eqd oeR (.tup [.tup (a.1.map rt), rt a.2]) (.tup [.tup (b.1.map rt), rt b.2]) = _
  have e0 : eqdL oeR [] [] = true := by simp [eqdL]
  rw [eqd, eqdL, eqdL, e0, eqd, eqdL_map rt oeR_rt, oeR_rt]
  obtain ⟨a1, a2⟩ := a
  obtain ⟨b1, b2⟩ := b
  rw [Bool.eq_iff_iff]
  simp
theorem eqd_rows (a b : List (List Rat × Rat)) : eqd oeR (.lst (a.map krow)) (.lst (b.map krow)) = decide (a = b) := by
  rw [eqd, eqdL_map krow eqd_krow]
section
variable {X : Cx} {C : CT}
theorem own_rt {K : PySem.W.Frag} (hK : X.K = K) (T : Txt K X.mg C) (ME : Mt X.prog X.w X.K X.mg X.base C 0 1 "__eq__" ["self", "other"] (spEqR C)) (r s : Rat) : OwnE X C oeR 1 0 [.int r.num, .int (r.den : Int)] [.int s.num, .int (s.den : Int)] := by
  refine ⟨⟨ME.f, ME.fd, _, _, ME.F, ME.b, ME.m.at_, ME.m.fn, ⟨r, s, rfl⟩, fun d hd => ?_⟩, fun e => ?_, by rw [T.fR]; decide, fun d hd => ?_⟩
  · obtain ⟨r', s', e, rfl⟩ := hd
    obtain ⟨e1, e2⟩ := rt_pair (r := r) (s := r') (d := rt s) (e := rt s') e
    subst e1
    have e3 := congrArg vl e2
    rw [vl_rt, vl_rt] at e3
    subst e3
    rw [← oeR_rt]
    rfl
  · show ((r.num == s.num) && ((r.den : Int) == s.den)) = true
    injection e with e1 e2
    injection e2 with e2 _
    injection e1 with e1
    injection e2 with e2
    rw [e1, e2]
    simp
  · simp at hd
    rcases hd with rfl | rfl | rfl | rfl <;> rfl
theorem cm_map {α : Type} {own : Nat → List D → List D → Prop} {f : α → D} (h : ∀ a b, Cm own (f a) (f b)) : ∀ (xs ys : List α), CmL own (xs.map f) (ys.map f)
  | [], _ => .nil
  | _ :: _, [] => .nil'
  | x :: xs, y :: ys => .cons (h x y) (cm_map h xs ys)
theorem cm_krow {own : Nat → List D → List D → Prop} (h : ∀ r s : Rat, own 0 [.int r.num, .int (r.den : Int)] [.int s.num, .int (s.den : Int)]) (a b : List Rat × Rat) : Cm own (krow a) (krow b) :=
  .tup (.cons (.tup (cm_map (fun r s => .ins (h r s)) _ _)) (.cons (.ins (h _ _)) .nil))
theorem dp_rt : ∀ rs : List Rat, dp2L (rs.map rt) = 0
  | [] => rfl
  | r :: rs => by rw [List.map_cons, dp2L, dp_rt rs]; rfl
theorem dp_rows : ∀ rows : List (List Rat × Rat), dp2L (rows.map krow) ≤ 2
  | [] => by decide
  | r :: rs => by
    rw [List.map_cons, dp2L]
    have h1 : dp2 (krow r) = 2 := by
      show dp2L [.tup (r.1.map rt), rt r.2] + 1 = 2
      rw [dp2L, dp2, dp_rt]
      rfl
    have := dp_rows rs
    omega
theorem cm_rows {own : Nat → List D → List D → Prop} (h : ∀ r s : Rat, own 0 [.int r.num, .int (r.den : Int)] [.int s.num, .int (s.den : Int)]) (a b : List (List Rat × Rat)) : Cm own (.lst (a.map krow)) (.lst (b.map krow)) := .lst fun _ => cm_map (cm_krow h) _ _
end
section
variable {P : Program} {w : World} {K : PySem.W.Frag} {mg : Str → Option Value} {base : Heap} {C : CT} {A : Amb} {ρ : Ro} {te : TE} {tl : TA} {R : D → Prop}
theorem dl_any {i : Nat} {d : D} {R : D → Prop} (h : ρ[i]? = some (slF true d)) (r : R d) : DL A ρ (tVar i) R := by
  unfold slF at h
  rw [if_pos rfl] at h
  split at h
  · exact dl_val h r
  · exact dl_arg h r
def NoIns (d : D) : Prop := ∀ k es, d ≠ .ins k es
abbrev sProgramEq : Stmt := inClass (top 27) 12
abbrev NsProgramEq : List Str := ["self", "other"]
theorem csProgramEq : FnScope NsProgramEq ["self", "other"] (defScope sProgramEq) := ⟨rfl, rfl, rfl, by decide +kernel, rfl, by decide +kernel, by decide +kernel⟩

def postEq (ds : List D) (e : D) : Prop := ∃ n rows y, ds = [prog n rows, y] ∧ ((∃ m rows2, y = prog m rows2 ∧ e = .bl (decide (n = m) && decide (rows = rows2))) ∨ (NoIns y ∧ e = .bl false))
def spEqP (C : CT) : Sp := spD C (fun ds => ∃ (n : Nat) (rows : List (List Rat × Rat)) (y : D), ds = [prog n rows, y] ∧ ((∃ (m : Nat) (rows2 : List (List Rat × Rat)), y = prog m rows2) ∨ (NoIns y ∧ ∀ b, y ≠ .bl b))) postEq
theorem kit_noP (T : Txt K mg C) {y : D} (h : NoIns y) (h2 : ∀ b, y ≠ .bl b) : PySem.W.kitOne K (tyD C y) (.ref (C 1).1) = some false := by
  cases y with
  | non => exact T.kXP _ (by simp)
  | bl b => exact absurd rfl (h2 b)
  | int i => exact T.kXP _ (by simp)
  | str i => exact T.kXP _ (by simp)
  | lst i => exact T.kXP _ (by simp)
  | tup i => exact T.kXP _ (by simp)
  | ins k es => exact absurd rfl (h k es)
theorem ok_eqP (T : Txt K mg C) (ME : Mt P w K mg base C 0 1 "__eq__" ["self", "other"] (spEqR C)) {f : Addr} {fd : FuncData} (F : Fun K "__eq__" "Program.__eq__" sProgramEq f fd) : FnOk P w K mg base CX0 6 f fd ["self", "other"] (spEqP C) := by
  refine F.ok csProgramEq (spD_len fun ds h => by obtain ⟨n, r, y, rfl, _⟩ := h; rfl) (fun cdv A outer s H vs Q E hr h => ⟨_, (pss_one (ps_ret (pe_and (pe_callB call_isi (by rfl) T.isinstance (by decide +kernel) (pa_cons (pv 1) (pa_cons (pe_glob (v := .ref (C 1).1) (by rfl) T.mgProgram rfl) pa_nil))) (pe_and (pe_cmpR op_eq (pe_fld (pv 0) rfl) (pe_fld (pv 1) rfl) (nomark _)) (pe_one (pe_cmpR (op_eqX (oe := oeR) (C := C) (k := 1) (j := 5) hr) (pe_fld (pv 0) rfl) (pe_fld (pv 1) rfl) (nomark _))))))), spD_run h fun ds hp => ?_⟩)
  obtain ⟨n, rows, y, rfl, hy⟩ := hp
  have h1 : (ro NsProgramEq [prog n rows, y])[1]? = some (slF true y) := rfl
  rcases hy with ⟨m, rows2, rfl⟩ | ⟨hy, hb⟩
  · refine ds_ret <| de_andV <| l_isi (.own _) <| dl_any h1 ⟨fun k ds e => by unfold prog at e; cases e; exact T.kP, true, T.kPP, true, rfl, no3, fun _ => ?_⟩
    refine de_andV <| w_op <| e_unk T rfl rfl <| e_unk T rfl rfl <| od_eq rfl ⟨_, rfl, fun z => ⟨n, rows, _, rfl, .inl ⟨m, rows2, rfl, ?_⟩⟩, fun z => ?_⟩
    · have : ¬ n = m := fun q => by subst q; simp at z
      rw [decide_eq_false this]; rfl
    · have : n = m := by have := eq_of_beq z; omega
      subst this
      refine w_op <| e_rws T rfl rfl <| e_rws T rfl rfl <| ce_X (cm_rows (fun r s => own_rt rfl T ME r s) _ _) rfl rfl ?_ ⟨n, rows, _, rfl, .inl ⟨n, rows2, rfl, ?_⟩⟩
      · have := dp_rows rows
        rw [dp2]; omega
      · rw [eqd_rows, decide_eq_true rfl, Bool.true_and]
  · exact ds_ret <| de_andV <| l_isi (.own _) <| dl_any h1 ⟨fun k ds e => absurd e (hy k ds), false, kit_noP T hy hb, false, rfl, fun _ => ⟨n, rows, y, rfl, .inr ⟨hy, rfl⟩⟩, no2⟩
/-! ### repr -/
def rowT (w : List Rat × Rat) : Str := tupleText [listText (w.1.map rpT), rpT w.2]
def rowsT (rows : List (List Rat × Rat)) : Str := listText (rows.map rowT)
def SzR (n : Nat) (rows : List (List Rat × Rat)) : Prop := ∀ r ∈ rows, Sz n r.2 ∧ ∀ q ∈ r.1, Sz n q
theorem rp_len {r : Rat} (h : Sz 1900 r) : (rpT r).length ≤ 3851 := by
  have m1 := len_i (log1920 h.num (by decide) (Nat.le_refl _))
  have m2 := len_i (log1920 h.den (by decide) (Nat.le_refl _))
  have c0 : (Str.empty ++ Str.ofString "Ratio(").length ≤ 6 := by decide +kernel
  have c1 : (Str.ofString ", ").length ≤ 2 := by decide +kernel
  have c2 : (Str.ofString ")").length ≤ 1 := by decide +kernel
  exact ap_le (ap_le (ap_le (c := 1929) (ap_le (c := 1927) c0 m1 (by omega)) c1 (by omega)) m2 (Nat.le_refl _)) c2 (by omega)
theorem sum_le {c : Nat} : ∀ {ts : List Str}, (∀ t ∈ ts, t.length ≤ c) → (ts.map (·.length)).sum ≤ c * ts.length
  | [], _ => by simp
  | t :: ts, h => by
    have h1 := h t List.mem_cons_self
    have h2 := sum_le (ts := ts) fun x hx => h x (List.mem_cons_of_mem _ hx)
    rw [List.map_cons, List.sum_cons, List.length_cons, Nat.mul_add, Nat.mul_one]
    omega
theorem lst_le {ts : List Str} {c n : Nat} (h : ∀ t ∈ ts, t.length ≤ c) (hn : ts.length ≤ n) : (listText ts).length ≤ (c + 2) * n + 3 := by
  have h1 := listText_len_le ts
  have h2 := sum_le h
  have h3 : (c + 2) * ts.length ≤ (c + 2) * n := Nat.mul_le_mul_left _ hn
  rw [Nat.add_mul] at h3
  omega
theorem tup_le {ts : List Str} {c n : Nat} (h : ∀ t ∈ ts, t.length ≤ c) (hn : ts.length ≤ n) : (tupleText ts).length ≤ (c + 2) * n + 3 := by
  have h1 := tupleText_len_le ts
  have h2 := sum_le h
  have h3 : (c + 2) * ts.length ≤ (c + 2) * n := Nat.mul_le_mul_left _ hn
  rw [Nat.add_mul] at h3
  omega
theorem ws_len {ws : List Rat} (h : ∀ q ∈ ws, Sz 1900 q) (hl : ws.length ≤ 16) : (listText (ws.map rpT)).length ≤ 61651 :=
  lst_le (c := 3851) (n := 16) (fun t ht => by obtain ⟨q, hq, rfl⟩ := List.mem_map.mp ht; exact rp_len (h q hq)) (by rw [List.length_map]; exact hl)
theorem row_len {r : List Rat × Rat} (h : Sz 1900 r.2 ∧ ∀ q ∈ r.1, Sz 1900 q) (hl : r.1.length ≤ 16) : (rowT r).length ≤ 123309 :=
  tup_le (c := 61651) (n := 2) (fun t ht => by
    simp at ht
    rcases ht with rfl | rfl
    · exact ws_len h.2 hl
    · exact Nat.le_trans (rp_len h.1) (by decide)) (by simp)
theorem rows_len {rows : List (List Rat × Rat)} (h : SzR 1900 rows) (hw : ∀ r ∈ rows, r.1.length ≤ 16) (hl : rows.length ≤ 40) : (rowsT rows).length ≤ 4932443 :=
  lst_le (c := 123309) (n := 40) (fun t ht => by obtain ⟨r, hr, rfl⟩ := List.mem_map.mp ht; exact row_len (h r hr) (hw r hr)) (by rw [List.length_map]; exact hl)
section
variable {X : Cx}
theorem own_rp {r : Rat} (h : Sz 1900 r) (MR_ : Mt X.prog X.w X.K X.mg X.base C 0 1 "__repr__" ["self"] (spRepr C)) : OwnR X C 1 0 [.int r.num, .int (r.den : Int)] (rpT r) :=
  ⟨MR_.f, MR_.fd, _, _, MR_.F, MR_.b, MR_.m.at_, MR_.m.fn, ⟨r, rfl, h⟩, fun d hd => by
    obtain ⟨s, e, rfl⟩ := hd
    have := congrArg (fun l => vl (l.headD .non)) e
    have e2 : r = s := by simpa [vl_rt, rt, vl, self_div] using this
    subst e2; rfl⟩
theorem shw_map {α : Type} {own : Nat → List D → Str → Prop} {f : α → D} {g : α → Str} : ∀ {xs : List α}, (∀ a ∈ xs, Shw own (f a) (g a)) → ShwL own (xs.map f) (xs.map g)
  | [], _ => .nil
  | x :: xs, h => .cons (h x List.mem_cons_self) (shw_map fun a ha => h a (List.mem_cons_of_mem _ ha))
theorem big_line {n : Nat} (h : n ≤ 16000000) : n ≤ sizeLine := Nat.le_trans h (show 16000000 ≤ sizeLine by decide)
theorem shw_rows {own : Nat → List D → Str → Prop} {rows : List (List Rat × Rat)} (ho : ∀ r : Rat, Sz 1900 r → own 0 [.int r.num, .int (r.den : Int)] (rpT r)) (h : SzR 1900 rows) (hw : ∀ r ∈ rows, r.1.length ≤ 16) (hl : rows.length ≤ 40) : Shw own (.lst (rows.map trow)) (rowsT rows) := by
  refine .lst (shw_map fun r hr => ?_) (big_line (Nat.le_trans (rows_len h hw hl) (by decide)))
  have z := h r hr
  exact .tup (.cons (.lst (shw_map fun q hq => .ins (ho q (z.2 q hq))) (big_line (Nat.le_trans (ws_len z.2 (hw r hr)) (by decide)))) (.cons (.ins (ho _ z.1)) .nil)) (big_line (Nat.le_trans (row_len z (hw r hr)) (by decide)))
theorem dep_rt : ∀ rs : List Rat, depL (rs.map rt) = 0
  | [] => rfl
  | r :: rs => by rw [List.map_cons, depL, dep_rt rs]; rfl
theorem dep_rows : ∀ rows : List (List Rat × Rat), depL (rows.map trow) ≤ 2
  | [] => by decide
  | r :: rs => by
    rw [List.map_cons, depL]
    have h1 : dep (trow r) = 2 := by
      show depL [.lst (r.1.map rt), rt r.2] + 1 = 2
      rw [depL, dep, dep_rt]
      rfl
    have := dep_rows rs
    omega
end
abbrev sProgramRepr : Stmt := inClass (top 27) 13
abbrev NsProgramRepr : List Str := ["self"]
theorem csProgramRepr : FnScope NsProgramRepr ["self"] (defScope sProgramRepr) := ⟨rfl, rfl, rfl, by decide +kernel, rfl, by decide +kernel, by decide +kernel⟩

def progT (n : Nat) (rows : List (List Rat × Rat)) : Str := ((((Str.empty ++ Str.ofString "Program(") ++ iT (n : Int)) ++ Str.ofString ", ") ++ rowsT rows) ++ Str.ofString ")"
def spReprP (C : CT) : Sp := spD C (fun ds => ∃ (n : Nat) (rows : List (List Rat × Rat)), ds = [prog n rows] ∧ n ≤ 16 ∧ rows.length ≤ 40 ∧ SzR 1900 rows ∧ WfP n rows) fun ds e => ∃ (n : Nat) (rows : List (List Rat × Rat)), ds = [prog n rows] ∧ e = .str (progT n rows)
theorem ok_reprP (T : Txt K mg C) (M_rows : Mt P w K mg base C 1 1 "rows" ["self"] (spRws C)) (MR_ : Mt P w K mg base C 0 1 "__repr__" ["self"] (spRepr C)) {f : Addr} {fd : FuncData} (F : Fun K "__repr__" "Program.__repr__" sProgramRepr f fd) : FnG P w K mg base CX0 7 f fd ["self"] (spReprP C) := by
  refine okG F csProgramRepr (spD_len fun ds h => by obtain ⟨n, r, rfl, _⟩ := h; rfl) (fun cdv A outer s H vs Q E gd hr h => ⟨_, (pss_one (ps_ret (pe_joined (.cons pe_str (.cons (pe_fmt (pe_fld (pv 0) rfl)) (.cons pe_str (.cons (pe_fmtX (C := C) (k := 1) gd hr (pe_mt0 M_rows hr (pv 0))) (.cons pe_str .nil)))))))), spD_run h fun ds hp => ?_⟩)
  obtain ⟨n, rows, rfl, n16, hl, hz, hw⟩ := hp
  have hw2 : ∀ r ∈ rows, r.1.length ≤ 16 := fun r hr => by rw [hw r hr]; exact n16
  have l1 : ((n : Nat) : Int).natAbs.log2 < 1920 := log1920 (n := 5) (by simp; omega) (by decide) (by decide)
  have m1 := len_i l1
  have m2 := rows_len hz hw2 hl
  have c0 : (Str.empty ++ Str.ofString "Program(").length ≤ 8 := by decide +kernel
  have c1 : (Str.ofString ", ").length ≤ 2 := by decide +kernel
  have c2 : (Str.ofString ")").length ≤ 1 := by decide +kernel
  have g1 := ap_le (c := 1929) c0 m1 (by omega)
  have g2 := ap_le (c := 1931) g1 c1 (by omega)
  have g3 := ap_le (c := 4934374) g2 m2 (by omega)
  have g4 := ap_le (c := 4934375) g3 c2 (by omega)
  refine ds_ret <| js_cons <| w_str ⟨_, rfl, big_line (Nat.le_trans c0 (by decide)), js_cons <| w_fmtI <| e_unk T rfl rfl ⟨_, rfl, l1, _, rfl, big_line (Nat.le_trans g1 (by decide)), js_cons <| w_str ⟨_, rfl, big_line (Nat.le_trans g2 (by decide)), ?_⟩⟩⟩
  refine js_cons <| w_fmtX (k := 1) <| DN.de <| c_rws rfl (no_rws T) rfl (by omega) ⟨rowsT rows, shw_rows (fun r hr => own_rp hr MR_) hz hw2 hl, big_line (Nat.le_trans m2 (by decide)), ?_, _, rfl, big_line (Nat.le_trans g3 (by decide)), js_cons <| w_str ⟨_, rfl, big_line (Nat.le_trans g4 (by decide)), js_nil ⟨n, rows, rfl, rfl⟩⟩⟩
  have := dep_rows rows
  rw [dep]; omega
end
end K13
namespace K13
open PySem L2 GX GD KM
open Evl (Ex)
/-- what the pot holds -/
def PotW : HO → Prop := fun o => ∃ x y : Int, o = .lst [.int x, .int y] ∧ 0 ≤ x ∧ 0 ≤ y ∧ y < 2 ^ 31
section
variable {P : Program} {w : World} {K : PySem.W.Frag} {mg : Str → Option Value} {base : Heap} {C : CT} {A : Amb} {ρ : Ro} {te : TE} {tl : TA} {R : D → Prop}
abbrev sLDraw : Stmt := top 32
abbrev NsLDraw : List Str := ["_law_pot_here", "_law_size", "_law_digit"]
theorem csLDraw : FnScope NsLDraw ["_law_pot_here", "_law_size"] (defScope sLDraw) := ⟨rfl, rfl, rfl, by decide +kernel, rfl, by decide +kernel, by decide +kernel⟩

def spDraw (C : CT) : Sp := spC C PotW (fun ds => ∃ n : Int, ds = [.int n] ∧ 0 < n ∧ n < 2 ^ 60) fun ds e => ∃ n d : Int, ds = [.int n] ∧ e = .int d ∧ 0 ≤ d ∧ d < n
theorem ok_draw (T : Txt K mg C) {f : Addr} {fd : FuncData} (F : Fun K "_law_draw" "_law_draw" sLDraw f fd) : FnOk P w K mg base CX0 1 f fd ["_law_pot_here", "_law_size"] (spDraw C) := by
  refine F.ok csLDraw (spC_len fun ds h => by obtain ⟨n, rfl, _⟩ := h; rfl) (fun cdv A outer s H vs Q E hr h => ⟨_, (pss_cons (ps_if (pt_cmpR op_gt (pe_ix ix_list (pv 0) pe_int (fun _ _ => rfl)) pe_int (nomark _)) (pss_cons (ps_asg (pe_callB call_divmodW (by rfl) T.divmod (by decide +kernel) (pa_cons (pe_ix ix_list (pv 0) pe_int (fun _ _ => rfl)) (pa_cons (pv 1) pa_nil))) (pg_tup (by rfl) (pgs_cons (pg_sub (pv 0) pe_int set_list) (pgs_cons (pg_name (i := 2) csLDraw.nd rfl (.inl rfl)) pgs_nil))))
      (pss_one (ps_ret (pv 2)))) pss_nil)
      (pss_cons (ps_asg (pe_op op_mod (pe_callTy call_int1 (by rfl) T.int (by decide +kernel) (pa_cons (pe_op op_add (pe_op op_mul (pe_ix ix_list (pv 0) pe_int (fun _ _ => rfl)) pe_int) pe_int) pa_nil)) pe_int) (pg_sub (pv 0) pe_int set_list))
      (pss_one (ps_ret (pe_op op_mod (pe_callTy call_int1 (by rfl) T.int (by decide +kernel) (pa_cons (pe_op op_fdiv (pe_op op_mod (pe_callTy call_int1 (by rfl) T.int (by decide +kernel) (pa_cons (pe_op op_mul (pe_ix ix_list (pv 0) pe_int (fun _ _ => rfl)) (pe_ix ix_list (pv 0) pe_int (fun _ _ => rfl))) pa_nil)) pe_int) pe_int) pa_nil)) (pv 1)))))), ?_⟩)
  obtain ⟨p, G, ds, ws, rfl, hs, rl, ⟨n, rfl, n0, n1⟩, q⟩ := h
  cases rl with
  | cons r1 rr =>
    cases rr; cases r1
    obtain ⟨gp, o, hp, ⟨x, y, rfl, x0, y0, y1⟩, _⟩ := hs.2 p rfl
    have k : ∀ (d : Int) (H' : Hp) (o : HO), 0 ≤ d → d < n → (∀ a o, a ≠ p → H a = some o → H' a = some o) → H' p = some o → PotW o → Q (.int d) H' := fun d H' o d0 d1 kp hp' ho =>
      q (.int d) _ G H' ⟨n, d, rfl, rfl, d0, d1⟩ (.int d) (stp_pot hs kp hp' ho (by obtain ⟨_, _, rfl, _⟩ := ho; exact nofun))
    refine ⟨_, rfl, p, _, _, _, rfl, rfl, SqL.of hp, atI_nat (j := 0) rfl, _, _, rfl, rfl, _, rfl, ite2 (fun z => ?_) (fun z => ?_)⟩
    · refine ⟨_, rfl, p, _, _, _, rfl, rfl, SqL.of hp, atI_nat (j := 0) rfl, _, rfl, _, _, rfl, ⟨n0, PyProof.noPylong_of_log2 (log_of (n := 60) (by omega) (by decide) (by decide))⟩, fun t ht => ?_⟩
      have npt : p ≠ t := ne_of_none hp ht
      refine ⟨t, _, rfl, SqT.of upd_same, rfl, _, _, rfl, _, rfl, p, _, _, 0, rfl, rfl, (by rw [upd_ne npt]; exact hp), rfl, ?_⟩
      refine ⟨_, _, rfl, ⟨rfl, ?_⟩⟩
      refine ⟨_, rfl, k _ _ _ (Int.emod_nonneg _ (by omega)) (Int.emod_lt_of_pos _ n0) (fun a o na ha => ?_) upd_same ⟨x / n, y, rfl, Int.ediv_nonneg x0 (by omega), y0, y1⟩⟩
      rw [upd_ne na, upd_ne (ne_of_none ha ht)]
      exact ha
    · refine ⟨_, rfl, p, _, _, _, rfl, rfl, SqL.of hp, atI_nat (j := 1) rfl, _, _, rfl, rfl, .inr ⟨by decide, by decide⟩, _, _, rfl, rfl, .inl ⟨_, rfl, _, _, rfl, rfl, (by show (0 : Int) < 2147483543; decide), ?_⟩⟩
      refine ⟨_, rfl, p, _, _, 1, rfl, rfl, hp, rfl, ?_⟩
      have hb : 0 ≤ (y * 39403 + 30029) % 2147483543 ∧ (y * 39403 + 30029) % 2147483543 < 2147483543 := ⟨Int.emod_nonneg _ (by decide), Int.emod_lt_of_pos _ (by decide)⟩
      generalize hy' : (y * 39403 + 30029) % 2147483543 = y' at hb
      have hp' : upd H p (.lst ([V.int x, V.int y].set 1 (.int ((y * 39403 + 30029) % 2147483543)))) p = some (.lst [.int x, .int y']) := by rw [upd_same, hy']; rfl
      refine ⟨_, rfl, p, _, _, _, rfl, rfl, SqL.of hp', atI_nat (j := 1) rfl, _, rfl, p, _, _, _, rfl, rfl, SqL.of hp', atI_nat (j := 1) rfl, _, _, rfl, rfl, .inl ⟨by omega, by omega⟩, .inl ⟨_, rfl, _, _, rfl, rfl, (by show (0 : Int) < 2147483529; decide), _, _, rfl, rfl, ⟨by decide, by decide⟩, .inl ⟨_, rfl, _, rfl, _, _, rfl, rfl, n0, ?_⟩⟩⟩
      refine k _ _ _ (Int.emod_nonneg _ (by omega)) (Int.emod_lt_of_pos _ n0) (fun a o na ha => ?_) hp' ⟨x, y', rfl, x0, hb.1, by omega⟩
      rw [upd_ne na]
      exact ha
/-- a draw, told by what comes -/
theorem c_draw {i : Nat} {n : Int} {R : D → Prop} (hA : A.C = C) (hW : A.W = PotW) (hi : ρ[i]? = some (some Sl.pot)) (h : DE A ρ te fun x => ∃ n : Int, x = .int n ∧ 0 < n ∧ n < 2 ^ 60 ∧ ∀ d : Int, 0 ≤ d → d < n → R (.int d)) : DE A ρ (tCall (spDraw C) [] E0 (tCons (tVar i) (tCons te tNil))) R := by
  subst hA
  have e : spDraw A.C = spC A.C A.W (fun ds => ∃ n : Int, ds = [.int n] ∧ 0 < n ∧ n < 2 ^ 60) fun ds e => ∃ n d : Int, ds = [.int n] ∧ e = .int d ∧ 0 ≤ d ∧ d < n := by rw [hW]; rfl
  rw [e]
  refine de_callC hi <| da_one <| h.imp fun x hx => ?_
  obtain ⟨n, rfl, n0, n1, k⟩ := hx
  exact ⟨⟨n, rfl, n0, n1⟩, fun d hd => by obtain ⟨m, z, e, rfl, z0, z1⟩ := hd; cases e; exact k z z0 z1⟩
abbrev sLPick : Stmt := top 33
abbrev NsLPick : List Str := ["_law_pot_here", "_law_some"]
theorem csLPick : FnScope NsLPick ["_law_pot_here", "_law_some"] (defScope sLPick) := ⟨rfl, rfl, rfl, by decide +kernel, rfl, by decide +kernel, by decide +kernel⟩

def spPick (C : CT) : Sp := spC C PotW (fun ds => ∃ xs, ds = [.lst xs] ∧ 0 < xs.length ∧ xs.length ≤ 100) fun ds e => ∃ xs, ds = [.lst xs] ∧ e ∈ xs
theorem ok_pick (T : Txt K mg C) (LD : Df P w K mg base 1 "_law_draw" ["_law_pot_here", "_law_size"] (spDraw C)) {f : Addr} {fd : FuncData} (F : Fun K "_law_pick" "_law_pick" sLPick f fd) : FnOk P w K mg base CX0 2 f fd ["_law_pot_here", "_law_some"] (spPick C) := by
  refine F.ok csLPick (spC_len fun ds h => by obtain ⟨n, rfl, _⟩ := h; rfl) (fun cdv A outer s H vs Q E hr h => ⟨_, (pss_one (ps_ret (pe_ix ix_seq (pv 1) (pe_df LD hr (pa_cons (pv 0) (pa_cons (pe_callB call_len_seq (by rfl) T.len PySem.boot_len (pa_cons (pv 1) pa_nil)) pa_nil))) (fun _ _ => rfl)))), spC_run h fun p ds hp => ?_⟩)
  obtain ⟨xs, rfl, h0, h1⟩ := hp
  refine ds_ret <| w_op <| w_var rfl <| c_draw (n := 0) rfl rfl rfl <| l_len <| dl_val rfl ⟨false, xs, rfl, _, rfl, by omega, by omega, fun d d0 d1 => ?_⟩
  have hd : d.toNat < xs.length := by omega
  have e : d = ((d.toNat : Nat) : Int) := by omega
  rw [e]
  exact ox_lst (ixN_of hd) (List.getElem?_eq_getElem hd) ⟨xs, rfl, List.getElem_mem hd⟩
theorem c_pick {i : Nat} {R : D → Prop} (hA : A.C = C) (hW : A.W = PotW) (hi : ρ[i]? = some (some Sl.pot)) (h : DE A ρ te fun x => ∃ xs, x = .lst xs ∧ 0 < xs.length ∧ xs.length ≤ 100 ∧ ∀ e ∈ xs, R e) : DE A ρ (tCall (spPick C) [] E0 (tCons (tVar i) (tCons te tNil))) R := by
  subst hA
  have e : spPick A.C = spC A.C A.W (fun ds => ∃ xs, ds = [.lst xs] ∧ 0 < xs.length ∧ xs.length ≤ 100) fun ds e => ∃ xs, ds = [.lst xs] ∧ e ∈ xs := by rw [hW]; rfl
  rw [e]
  refine de_callC hi <| da_one <| h.imp fun x hx => ?_
  obtain ⟨xs, rfl, n0, n1, k⟩ := hx
  exact ⟨⟨xs, rfl, n0, n1⟩, fun d hd => by obtain ⟨m, e, hm⟩ := hd; cases e; exact k d hm⟩
/-! ### pairs -/
def pr (r : Rat) : D := .tup [.int r.num, .int (r.den : Int)]
theorem pr_inj {r s : Rat} (h : pr r = pr s) : r = s := by
  unfold pr at h
  injection h with h
  injection h with h1 h
  injection h with h2 _
  injection h1 with h1
  injection h2 with h2
  exact (eq_iff r s).mpr ⟨h1, h2⟩
theorem gcd_step {a b : Nat} (h : 0 < b) : Nat.gcd b (a % b) = Nat.gcd a b := by
  rw [Nat.gcd_comm b, ← Nat.gcd_rec, Nat.gcd_comm]
theorem abs_if (i : Int) : (if i < 0 then -i else i) = (i.natAbs : Int) := by split <;> omega
abbrev sLLow : Stmt := top 34
abbrev NsLLow : List Str := ["_law_above", "_law_below", "_law_one", "_law_other"]
theorem csLLow : FnScope NsLLow ["_law_above", "_law_below"] (defScope sLLow) := ⟨rfl, rfl, rfl, by decide +kernel, rfl, by decide +kernel, by decide +kernel⟩

def spLow (C : CT) : Sp := spD C (fun ds => ∃ p q : Int, ds = [.int p, .int q] ∧ q ≠ 0 ∧ q.natAbs < 2 ^ 9000) fun ds e => ∃ p q : Int, ds = [.int p, .int q] ∧ e = pr (Rat.divInt p q)
theorem ok_low (T : Txt K mg C) {f : Addr} {fd : FuncData} (F : Fun K "_law_low" "_law_low" sLLow f fd) : FnOk P w K mg base CX0 1 f fd ["_law_above", "_law_below"] (spLow C) := by
  refine F.ok csLLow (spD_len fun ds h => by obtain ⟨p, q, rfl, _⟩ := h; rfl) (fun cdv A outer s H vs Q E hr h => ⟨_, (pss_cons (ps_par (i := 2) (j := 3) (by rfl) csLLow.nd rfl rfl (by decide) rfl rfl (pa_cons (pe_callB call_abs (by rfl) T.abs (by decide +kernel) (pa_cons (pv 0) pa_nil)) (pa_cons (pe_callB call_abs (by rfl) T.abs (by decide +kernel) (pa_cons (pv 1) pa_nil)) pa_nil)) (by rfl))
      (pss_cons (ps_while PassesOwn.never (pt_cmpR op_gt (pv 3) pe_int (nomark _)) (pss_one (ps_par (i := 2) (j := 3) (by rfl) csLLow.nd rfl rfl (by decide) rfl rfl (pa_cons (pv 3) (pa_cons (pe_op op_mod (pe_callTy call_int1 (by rfl) T.int (by decide +kernel) (pa_cons (pv 2) pa_nil)) (pv 3)) pa_nil)) (by rfl))))
      (pss_one (ps_ret (pe_ifExp (pt_cmpR op_gt (pv 1) pe_int (nomark _)) (pe_tup (pa_cons (pe_op op_fdivNW (pv 0) (pv 2)) (pa_cons (pe_op op_fdivNW (pv 1) (pv 2)) pa_nil))) (pe_tup (pa_cons (pe_op op_fdivNW (pe_un un_neg (pv 0)) (pv 2)) (pa_cons (pe_op op_fdivNW (pe_un un_neg (pv 1)) (pv 2)) pa_nil)))))))), spD_run h fun ds hp => ?_⟩)
  obtain ⟨p, q, rfl, q0, hq⟩ := hp
  refine ds_par <| w_cons <| de_cb <| da_one <| w_var rfl <| ca_abs <| da_one <| de_cb <| da_one <| w_var rfl <| ca_abs ⟨_, _, rfl, ?_⟩
  rw [abs_if, abs_if]
  refine ds_whiles (fun m ρ' => ∃ a : Nat, ρ' = [some (.val (.int p)), some (.val (.int q)), some (.val (.int (a : Int))), some (.val (.int (m : Int)))] ∧ Nat.gcd a m = Nat.gcd p.natAbs q.natAbs) q.natAbs ⟨p.natAbs, rfl, rfl⟩ fun m ρ' hI => ?_
  obtain ⟨a, rfl, hg⟩ := hI
  refine dt_test <| w_op <| w_var rfl <| w_int <| ob_I0 (k := fun i j => decide (j < i)) rfl ⟨_, rfl, ⟨fun z => ?_, fun z => ?_⟩⟩
  · have m0 : 0 < m := by have := of_decide_eq_true z; omega
    refine ds_par (tu := tNext) <| w_cons <| w_var rfl <| da_one <| w_op <| de_cb <| da_one <| w_var rfl <| ca_int <| w_var rfl <| oi_I (k := (· % ·)) rfl (by omega) ⟨_, _, rfl, ds_next ⟨a % m, Nat.mod_lt _ m0, m, ?_, by rw [gcd_step m0, hg]⟩⟩
    simp
  · have m0 : m = 0 := by have := of_decide_eq_false z; omega
    subst m0
    rw [Nat.gcd_zero_right] at hg
    subst hg
    have e2 : ((Nat.gcd p.natAbs q.natAbs : Nat) : Int) = gz p q := rfl
    rw [e2]
    have g0 := gz_pos (p := p) q0
    have g1 : (gz p q).natAbs.log2 < 9000 := log_of (Nat.lt_of_le_of_lt (gz_le (p := p) q0) hq) (by decide) (Nat.le_refl _)
    have g2 : gz p q ≠ 0 := by omega
    refine ds_ret <| de_if <| dt_test <| w_op <| w_var rfl <| w_int <| ob_I0 (k := fun i j => decide (j < i)) rfl ⟨_, rfl, ⟨fun z => ?_, fun z => ?_⟩⟩
    · have z' : 0 < q := of_decide_eq_true z
      refine de_tup <| w_cons <| w_op <| w_var rfl <| w_var rfl <| oi_I (k := Int.fdiv) rfl ⟨g2, g1⟩ <| da_one <| w_op <| w_var rfl <| w_var rfl <| oi_I (k := Int.fdiv) rfl ⟨g2, g1⟩ ⟨by show 2 ≤ sizeLine; decide, p, q, rfl, ?_⟩
      unfold pr
      rw [num_pos z', den_pos z', ← fdiv_of_dvd (gz_dvd_l p q), ← fdiv_of_dvd (gz_dvd_r p q)]
    · have z' : q < 0 := by have := of_decide_eq_false z; omega
      refine de_tup <| w_cons <| w_op <| w_un <| w_var rfl <| ui_neg <| w_var rfl <| oi_I (k := Int.fdiv) rfl ⟨g2, g1⟩ <| da_one <| w_op <| w_un <| w_var rfl <| ui_neg <| w_var rfl <| oi_I (k := Int.fdiv) rfl ⟨g2, g1⟩ ⟨by show 2 ≤ sizeLine; decide, p, q, rfl, ?_⟩
      unfold pr
      rw [num_neg z', den_neg z', ← fdiv_of_dvd (Int.dvd_neg.mpr (gz_dvd_l p q)), ← fdiv_of_dvd (Int.dvd_neg.mpr (gz_dvd_r p q))]
end
end K13
namespace K13
open PySem L2 GX GD KM
open Evl (Ex)
theorem mulW_small {i j : Int} (h : i.natAbs < 2 ^ 64) (k : j.natAbs < 2 ^ 64) : CMulW i j := wide_mul h k (by decide) (by decide) (by decide)
section
variable {P : Program} {w : World} {K : PySem.W.Frag} {mg : Str → Option Value} {base : Heap} {C : CT} {A : Amb} {ρ : Ro} {te : TE} {tl : TA} {R : D → Prop}
/-- t[j], t a tuple that was passed -/
theorem e_ixA {i j : Nat} {ds : List D} {e : D} {R : D → Prop} (h : ρ[i]? = some (some (Sl.arg (.tup ds)))) (hj : ds[j]? = some e) (l : leaf e = true) (r : R e) : DE A ρ (tOp (rIx K) (tVar i) (tC (.int (j : Int)))) R :=
  de_dl <| dl_op <| dl_arg h <| dl_de <| w_int <| ol_orR <| ol_orL <| ol_ixT (ixN_of (List.getElem?_eq_some_iff.mp hj).1) hj ⟨l, r⟩
abbrev sLPair : Stmt := top 35
abbrev NsLPair : List Str := ["_law_number_here"]
theorem csLPair : FnScope NsLPair ["_law_number_here"] (defScope sLPair) := ⟨rfl, rfl, rfl, by decide +kernel, rfl, by decide +kernel, by decide +kernel⟩

def spPair (C : CT) : Sp := spD C (fun ds => ∃ d, ds = [d] ∧ Nm d) fun ds e => ∃ d, ds = [d] ∧ e = pr (vl d)
theorem ok_pair (T : Txt K mg C) (DP_top : Pr P w K mg base C 0 "top" (spTop C)) (DP_bottom : Pr P w K mg base C 0 "bottom" (spBot C)) {f : Addr} {fd : FuncData} (F : Fun K "_law_pair" "_law_pair" sLPair f fd) : FnOk P w K mg base CX0 3 f fd ["_law_number_here"] (spPair C) := by
  refine F.ok csLPair (spD_len fun ds h => by obtain ⟨d, rfl, _⟩ := h; rfl) (fun cdv A outer s H vs Q E hr h => ⟨_, (pss_one (ps_ret (pe_ifExp (pt_val (pe_callB call_isi (by rfl) T.isinstance (by decide +kernel) (pa_cons (pv 0) (pa_cons (pe_bltn (v := .ty "int") (by rfl) T.int (by decide +kernel) rfl) pa_nil)))) (pe_tup (pa_cons (pv 0) (pa_cons pe_int pa_nil))) (pe_tup (pa_cons (pe_pr DP_top hr (pv 0)) (pa_cons (pe_pr DP_bottom hr (pv 0)) pa_nil)))))), spD_run h fun ds hp => ?_⟩)
  obtain ⟨d, rfl, hd⟩ := hp
  cases hd with
  | int i => exact ds_ret <| de_if <| dt_B <| w_isi (.ty _) <| w_var rfl ⟨nofun, true, kit_ty (by decide +kernel), true, rfl, ⟨fun _ => de_tup <| w_cons <| w_var rfl <| da_one <| w_int ⟨by show 2 ≤ sizeLine; decide, _, rfl, rfl⟩, no3⟩⟩
  | rt r => exact ds_ret <| de_if <| dt_B <| w_isi (.ty _) <| w_var rfl ⟨kc0 T (.rt r), false, T.kRi, false, rfl, ⟨no2, fun _ => de_tup <| w_cons <| e_ptop rfl rfl <| da_one <| e_pbot rfl rfl ⟨by show 2 ≤ sizeLine; decide, _, rfl, by rw [vl_rt]; rfl⟩⟩⟩
theorem c_pair {i : Nat} {d : D} {R : D → Prop} (h : ρ[i]? = some (some (Sl.val d))) (hn : Nm d) (hA : A.C = C) (r : R (pr (vl d))) : DE A ρ (tCall (spPair C) [] E0 (tCons (tVar i) tNil)) R := by
  subst hA
  exact de_call0 (dla_cons (dl_val h (dla_nil ⟨⟨_, rfl, hn⟩, fun e he => by obtain ⟨_, q, rfl⟩ := he; cases q; exact r⟩)))
def spPB (C : CT) (f : Rat → Rat → Rat) : Sp := spD C (fun ds => ∃ r s n, ds = [pr r, pr s] ∧ Sz n r ∧ Sz n s ∧ 0 < n ∧ n ≤ 4000) fun ds e => ∃ r s, ds = [pr r, pr s] ∧ e = pr (f r s)
theorem c_low {p q : Int} {a b : TE} {R : D → Prop} (hA : A.C = C) (h : DE A ρ a fun x => x = .int p ∧ DE A ρ b fun y => y = .int q ∧ q ≠ 0 ∧ q.natAbs < 2 ^ 9000 ∧ R (pr (Rat.divInt p q))) : DE A ρ (tCall (spLow C) [] E0 (tCons a (tCons b tNil))) R := by
  subst hA
  refine de_call0 <| dla_cons <| dl_de <| h.imp fun x hx => ?_
  obtain ⟨rfl, hb⟩ := hx
  refine dla_cons <| dl_de <| hb.imp fun y hy => ?_
  obtain ⟨rfl, q0, hq, r⟩ := hy
  exact dla_nil ⟨⟨p, q, rfl, q0, hq⟩, fun e he => by obtain ⟨p', q', e1, rfl⟩ := he; cases e1; exact r⟩
theorem pw_le {i : Int} {a : Nat} (h : i.natAbs < 2 ^ a) (k : a ≤ 9000) : i.natAbs < 2 ^ 9000 := Nat.lt_of_lt_of_le h (Nat.pow_le_pow_right (by decide) k)
abbrev sLPlus : Stmt := top 36
abbrev NsLPlus : List Str := ["_law_one", "_law_other"]
theorem csLPlus : FnScope NsLPlus ["_law_one", "_law_other"] (defScope sLPlus) := ⟨rfl, rfl, rfl, by decide +kernel, rfl, by decide +kernel, by decide +kernel⟩

theorem ok_plus (LL : Df P w K mg base 1 "_law_low" ["_law_above", "_law_below"] (spLow C)) {f : Addr} {fd : FuncData} (F : Fun K "_law_plus" "_law_plus" sLPlus f fd) : FnOk P w K mg base CX0 2 f fd ["_law_one", "_law_other"] (spPB C (· + ·)) := by
  refine F.ok csLPlus (spD_len fun ds h => by obtain ⟨r, s, n, rfl, _⟩ := h; rfl) (fun cdv A outer s H vs Q E hr h => ⟨_, (pss_one (ps_ret (pe_df LL hr (pa_cons (pe_op op_add (pe_op op_mulW (pe_ix ix_seq (pv 0) pe_int (fun _ _ => rfl)) (pe_ix ix_seq (pv 1) pe_int (fun _ _ => rfl))) (pe_op op_mulW (pe_ix ix_seq (pv 1) pe_int (fun _ _ => rfl)) (pe_ix ix_seq (pv 0) pe_int (fun _ _ => rfl)))) (pa_cons (pe_op op_mulW (pe_ix ix_seq (pv 0) pe_int (fun _ _ => rfl)) (pe_ix ix_seq (pv 1) pe_int (fun _ _ => rfl))) pa_nil))))), spD_run h fun ds hp => ?_⟩)
  obtain ⟨r, s, n, rfl, z1, z2, n0, n1⟩ := hp
  refine ds_ret <| c_low rfl <| w_op <| w_op <| e_ixA (j := 0) rfl rfl rfl <| e_ixA (j := 1) rfl rfl rfl <| oi_I (k := (· * ·)) rfl (wide_mul z1.num z2.den n0 n0 (by omega)) <| w_op <| e_ixA (j := 0) rfl rfl rfl <| e_ixA (j := 1) rfl rfl rfl <| oi_I (k := (· * ·)) rfl (wide_mul z2.num z1.den n0 n0 (by omega)) <| oi_I0 (k := (· + ·)) rfl ⟨rfl, w_op <| e_ixA (j := 1) rfl rfl rfl <| e_ixA (j := 1) rfl rfl rfl <| oi_I (k := (· * ·)) rfl (wide_mul z1.den z2.den n0 n0 (by omega)) ⟨rfl, Int.mul_ne_zero (dz r) (dz s), pw_le (mul_lt z1.den z2.den) (by omega), r, s, rfl, ?_⟩⟩
  rw [add_eq]
abbrev sLTimes : Stmt := top 37
abbrev NsLTimes : List Str := ["_law_one", "_law_other"]
theorem csLTimes : FnScope NsLTimes ["_law_one", "_law_other"] (defScope sLTimes) := ⟨rfl, rfl, rfl, by decide +kernel, rfl, by decide +kernel, by decide +kernel⟩

theorem ok_times (LL : Df P w K mg base 1 "_law_low" ["_law_above", "_law_below"] (spLow C)) {f : Addr} {fd : FuncData} (F : Fun K "_law_times" "_law_times" sLTimes f fd) : FnOk P w K mg base CX0 2 f fd ["_law_one", "_law_other"] (spPB C (· * ·)) := by
  refine F.ok csLTimes (spD_len fun ds h => by obtain ⟨r, s, n, rfl, _⟩ := h; rfl) (fun cdv A outer s H vs Q E hr h => ⟨_, (pss_one (ps_ret (pe_df LL hr (pa_cons (pe_op op_mulW (pe_ix ix_seq (pv 0) pe_int (fun _ _ => rfl)) (pe_ix ix_seq (pv 1) pe_int (fun _ _ => rfl))) (pa_cons (pe_op op_mulW (pe_ix ix_seq (pv 0) pe_int (fun _ _ => rfl)) (pe_ix ix_seq (pv 1) pe_int (fun _ _ => rfl))) pa_nil))))), spD_run h fun ds hp => ?_⟩)
  obtain ⟨r, s, n, rfl, z1, z2, n0, n1⟩ := hp
  refine ds_ret <| c_low rfl <| w_op <| e_ixA (j := 0) rfl rfl rfl <| e_ixA (j := 0) rfl rfl rfl <| oi_I (k := (· * ·)) rfl (wide_mul z1.num z2.num n0 n0 (by omega)) ⟨rfl, w_op <| e_ixA (j := 1) rfl rfl rfl <| e_ixA (j := 1) rfl rfl rfl <| oi_I (k := (· * ·)) rfl (wide_mul z1.den z2.den n0 n0 (by omega)) ⟨rfl, Int.mul_ne_zero (dz r) (dz s), pw_le (mul_lt z1.den z2.den) (by omega), r, s, rfl, ?_⟩⟩
  rw [mul_eq]
theorem pb_post {f : Rat → Rat → Rat} {r s : Rat} {R : D → Prop} (h : R (pr (f r s))) : ∀ e, (∃ r' s', [pr r, pr s] = [pr r', pr s'] ∧ e = pr (f r' s')) → R e := by
  rintro e ⟨r', s', e1, rfl⟩
  obtain ⟨e2, e3⟩ := List.cons.inj e1
  cases pr_inj e2
  cases pr_inj (List.cons.inj e3).1
  exact h
abbrev sLDot : Stmt := top 38
abbrev NsLDot : List Str := ["_law_some", "_law_others", "_law_found", "_law_one", "_law_other"]
theorem csLDot : FnScope NsLDot ["_law_some", "_law_others"] (defScope sLDot) := ⟨rfl, rfl, rfl, by decide +kernel, rfl, by decide +kernel, by decide +kernel⟩

def NmZ (d : D) : Prop := Nm d ∧ Sz 12 (vl d)
def spDot (C : CT) : Sp := spD C (fun ds => ∃ t ws t2 vs, ds = [seqD t ws, seqD t2 vs] ∧ (∀ d ∈ ws, NmZ d) ∧ (∀ d ∈ vs, NmZ d) ∧ ws.length ≤ 100) fun ds e => ∃ t ws t2 vs, ds = [seqD t ws, seqD t2 vs] ∧ e = pr (dot (ws.map vl) (vs.map vl))
theorem ok_dot (T : Txt K mg C) (LPR : Df P w K mg base 3 "_law_pair" ["_law_number_here"] (spPair C)) (LPL : Df P w K mg base 2 "_law_plus" ["_law_one", "_law_other"] (spPB C (· + ·))) (LT : Df P w K mg base 2 "_law_times" ["_law_one", "_law_other"] (spPB C (· * ·)))
    {f : Addr} {fd : FuncData} (F : Fun K "_law_dot" "_law_dot" sLDot f fd) : FnOk P w K mg base CX0 4 f fd ["_law_some", "_law_others"] (spDot C) := by
  refine F.ok csLDot (spD_len fun ds h => by obtain ⟨t, ws, t2, vs, rfl, _⟩ := h; rfl) (fun cdv A outer s H vs Q E hr h => ⟨_, (pss_cons (ps_set (i := 2) csLDot.nd rfl (Or.inl rfl) (pe_tup (pa_cons pe_int (pa_cons pe_int pa_nil))))
      (pss_cons (ps_for PassesOwn.never rfl (pi_zipB (by rfl) T.zip (pa_cons (pv 0) (pa_cons (pv 1) pa_nil))) (pg_tup (by rfl) (pgs_cons (pg_name (i := 3) csLDot.nd rfl (.inl rfl)) (pgs_cons (pg_name (i := 4) csLDot.nd rfl (.inl rfl)) pgs_nil))) (pss_one (ps_set (i := 2) csLDot.nd rfl (Or.inl rfl) (pe_df LPL hr (pa_cons (pv 2) (pa_cons (pe_df LT hr (pa_cons (pe_df LPR hr (pa_cons (pv 3) pa_nil)) (pa_cons (pe_df LPR hr (pa_cons (pv 4) pa_nil)) pa_nil))) pa_nil))))))
      (pss_one (ps_ret (pv 2))))), spD_run h fun ds hp => ?_⟩)
  obtain ⟨t, ws, t2, us, rfl, hw, hv, hl⟩ := hp
  have h0 : ro NsLDot [seqD t ws, seqD t2 us] = [some (.arg (seqD t ws)), some (.arg (seqD t2 us)), none, none, none] := by cases t <;> cases t2 <;> rfl
  rw [h0]
  refine ds_set <| de_tup <| w_cons <| w_int <| da_one <| w_int ⟨by show 2 ≤ sizeLine; decide, ?_⟩
  refine ds_fors (l := true) (js := [3, 4]) (fun _ i ρ' => ∃ x y, ρ' = [some (.arg (seqD t ws)), some (.arg (seqD t2 us)), some (.val (pr (dotL 0 (ws.take i) (us.take i)))), x, y] ∧ Sz (1 + 25 * i) (dotL 0 (ws.take i) (us.take i))) (dm_zip (dm_arg rfl (dm_arg rfl ⟨t, t2, ws, us, rfl, rfl, ⟨none, none, ?_, ?_⟩, ?_, ?_⟩)))
  · rfl
  · rw [show dotL 0 (ws.take 0) (us.take 0) = 0 from rfl]
    exact ⟨by decide, by decide⟩
  · rintro i d ρ' hd ⟨x, y, rfl, hz⟩
    obtain ⟨a, b, ha, hb, rfl⟩ := zipD_get hd
    obtain ⟨na, za⟩ := hw a (List.mem_of_getElem? ha)
    obtain ⟨nb, zb⟩ := hv b (List.mem_of_getElem? hb)
    have il : i < ws.length := (List.getElem?_eq_some_iff.mp ha).1
    refine ⟨_, dg_tup2L, ?_⟩
    have sa : slF true a = some (Sl.val a) := by cases na <;> rfl
    have sb : slF true b = some (Sl.val b) := by cases nb <;> rfl
    rw [sa, sb]
    generalize hD : dotL 0 (ws.take i) (us.take i) = D at hz
    refine ds_set1 <| de_call0 <| dla_cons <| dl_val rfl <| dla_cons <| dl_de <| de_call0 <| dla_cons <| dl_de <| c_pair rfl na rfl <| dla_cons <| dl_de <| c_pair rfl nb rfl <| dla_nil ⟨⟨_, _, 12, rfl, za, zb, by decide, by decide⟩, pb_post (f := (· * ·)) <| dla_nil ⟨⟨D, _, 1 + 25 * i + 24, rfl, hz.mono (by omega), (Sz_mul za zb).mono (by omega), by omega, by omega⟩, pb_post (f := (· + ·)) ?_⟩⟩
    rw [dotL_snoc ha hb, hD]
    exact ⟨_, _, rfl, (Sz_add hz (Sz_mul za zb)).mono (by omega)⟩
  · rintro ρ' ⟨x, y, rfl, _⟩
    refine ds_ret <| w_var rfl ⟨t, ws, t2, us, rfl, ?_⟩
    rw [dotL_min (by unfold zipD; simp), dotL_eq, Rat.zero_add]
abbrev sLNumber : Stmt := top 40
abbrev NsLNumber : List Str := ["_law_pot_here", "_law_most", "_law_above", "_law_below"]
theorem csLNumber : FnScope NsLNumber ["_law_pot_here", "_law_most"] (defScope sLNumber) := ⟨rfl, rfl, rfl, by decide +kernel, rfl, by decide +kernel, by decide +kernel⟩

def spNum (C : CT) : Sp := spC C PotW (fun ds => ∃ m : Int, ds = [.int m] ∧ 1 ≤ m ∧ m ≤ 100) fun ds e => NmZ e
theorem ok_num (T : Txt K mg C) (MR : MkR P w K mg base C) (LD : Df P w K mg base 1 "_law_draw" ["_law_pot_here", "_law_size"] (spDraw C)) (LP : Df P w K mg base 2 "_law_pick" ["_law_pot_here", "_law_some"] (spPick C)) {f : Addr} {fd : FuncData} (F : Fun K "_law_number" "_law_number" sLNumber f fd) :
    FnOk P w K mg base CX0 4 f fd ["_law_pot_here", "_law_most"] (spNum C) := by
  refine F.ok csLNumber (spC_len fun ds h => by obtain ⟨m, rfl, _⟩ := h; rfl) (fun cdv A outer s H vs Q E hr h => ⟨_, (pss_cons (ps_par (i := 2) (j := 3) (by rfl) csLNumber.nd rfl rfl (by decide) rfl rfl (pa_cons (pe_op op_sub (pe_df LD hr (pa_cons (pv 0) (pa_cons (pe_op op_add (pe_op op_mulW pe_int (pv 1)) pe_int) pa_nil))) (pv 1)) (pa_cons (pe_df LP hr (pa_cons (pv 0) (pa_cons (pe_lst (pa_cons pe_int (pa_cons pe_int (pa_cons pe_int (pa_cons pe_int (pa_cons pe_int (pa_cons pe_int pa_nil))))))) pa_nil))) pa_nil)) (by rfl))
      (pss_one (ps_ret (pe_ifExp (PW.pt (pw_and (pt_cmpR op_eq (pv 3) pe_int (nomark _)) (pw_and1 (pt_cmpR op_eq (pe_df LD hr (pa_cons (pv 0) (pa_cons pe_int pa_nil))) pe_int (nomark _))))) (pv 2) (pe_make MR.M MR.G (hr.mono (by decide)) (by rfl) T.mgRatio MR.b2 .nil pass0 (pa_cons (pv 2) (pa_cons (pv 3) pa_nil))))))), spC_run h fun p ds hp => ?_⟩)
  obtain ⟨m, rfl, m1, m2⟩ := hp
  refine ds_par <| w_cons <| w_op <| c_draw (n := 0) rfl rfl rfl <| w_op <| w_op <| w_int <| w_var rfl <| oi_I (k := (· * ·)) rfl (mulW_small (by decide) (by omega)) <| w_int <| oi_I0 (k := (· + ·)) rfl ⟨_, rfl, by omega, by omega, fun d d0 d1 => w_var rfl <| oi_I0 (k := (· - ·)) rfl <| da_one <| c_pick rfl rfl rfl <| de_lst <| w_cons <| w_int <| w_cons <| w_int <| w_cons <| w_int <| w_cons <| w_int <| w_cons <| w_int <| da_one <| w_int ⟨by show 6 ≤ sizeLine; decide, _, rfl, by decide, by decide, fun e he => ⟨_, _, rfl, ?_⟩⟩⟩
  obtain ⟨q, rfl, q1, q4⟩ : ∃ q : Int, e = .int q ∧ 1 ≤ q ∧ q ≤ 4 := by
    simp at he
    rcases he with rfl | rfl | rfl | rfl
    · exact ⟨1, rfl, by decide, by decide⟩
    · exact ⟨2, rfl, by decide, by decide⟩
    · exact ⟨3, rfl, by decide, by decide⟩
    · exact ⟨4, rfl, by decide, by decide⟩
  have zq : ∀ q : Int, 1 ≤ q → q ≤ 4 → Sz 12 (Rat.divInt (d - m) q) := fun q h1 h2 => Sz.low (by omega) (by omega) (by omega)
  have fin1 : NmZ (.int (d - m)) := ⟨.int _, by have := zq 1 (by decide) (by decide); rw [of_int] at this; exact this⟩
  have fin2 : NmZ (rt (Rat.divInt (d - m) q)) := ⟨.rt _, by rw [vl_rt]; exact zq q q1 q4⟩
  have mk : DE ⟨C, PotW, some p⟩ [some Sl.pot, some (.val (.int m)), some (.val (.int (d - m))), some (.val (.int q))] (tMake (C 0).1 (spI C 0 preR postR) [] E0 (tCons (tVar 2) (tCons (tVar 3) tNil))) NmZ := by
    refine de_make (des := []) (fun _ => .nil) <| dla_cons <| dl_val rfl <| dla_cons <| dl_val rfl <| dla_nil ⟨⟨_, _, rfl, by omega, pw_le (a := 12) (by omega) (by decide)⟩, fun es he => ?_⟩
    obtain ⟨h1, h2⟩ := mk_of (R := NmZ) rfl fin2 es he
    exact ⟨by rw [T.fR]; exact h1, h2⟩
  refine ds_ret <| de_if <| dt_and <| dt_test <| w_op <| w_var rfl <| w_int <| od_eq rfl ⟨_, rfl, ⟨fun _ => ⟨no2, fun _ => mk⟩, fun _ => dt_test <| w_op <| c_draw (n := 0) rfl rfl rfl <| w_int ⟨2, rfl, by decide, by decide, fun d2 _ _ => w_int <| od_eq rfl ⟨_, rfl, ⟨fun _ => w_var rfl fin1, fun _ => mk⟩⟩⟩⟩⟩
end
end K13
namespace K13
open PySem L2 GX GD KM
open Evl (Ex)
/-- a row of small numbers, as the law makes them -/
structure RowZ (n : Nat) (d : D) : Prop where
  ex : ∃ ws b, d = .tup [.lst ws, b] ∧ ws.length = n ∧ (∀ w ∈ ws, NmZ w) ∧ NmZ b
theorem RowZ.ok {n : Nat} {d : D} (h : RowZ n d) : RowOk n d := by
  obtain ⟨ws, b, rfl, hl, hw, hb⟩ := h.ex
  exact ⟨false, ws, b, rfl, hl, fun w h => (hw w h).1, hb.1⟩
theorem nmz_int {i : Int} (h : i.natAbs < 4096) : NmZ (.int i) := ⟨.int i, by
  show Sz 12 (i : Rat)
  have := Sz.low (n := 12) (p := i) (q := 1) (by omega) (by decide) (by decide)
  rw [of_int] at this; exact this⟩
section
variable {P : Program} {w : World} {K : PySem.W.Frag} {mg : Str → Option Value} {base : Heap} {C : CT} {A : Amb} {ρ : Ro} {te : TE} {tl : TA} {R : D → Prop}
theorem c_num {i : Nat} {m : Int} {R : D → Prop} (hA : A.C = C) (hW : A.W = PotW) (hi : ρ[i]? = some (some Sl.pot)) (m1 : 1 ≤ m) (m2 : m ≤ 100) (h : ∀ d, NmZ d → R d) : DE A ρ (tCall (spNum C) [] E0 (tCons (tVar i) (tCons (tC (.int m)) tNil))) R := by
  subst hA
  have e : spNum A.C = spC A.C A.W (fun ds => ∃ m : Int, ds = [.int m] ∧ 1 ≤ m ∧ m ≤ 100) fun ds e => NmZ e := by rw [hW]; rfl
  rw [e]
  exact de_callC hi <| da_one <| w_int ⟨⟨m, rfl, m1, m2⟩, h⟩
/-- as ds_app, what follows a word -/
theorem Sl_val {d : D} (h : Nm d) : slF true d = some (.val d) := by cases h <;> rfl
abbrev sLRows : Stmt := top 41
abbrev NsLRows : List Str := ["_law_pot_here", "_law_many", "_law_most", "_law_rows_here", "_law_turn", "_law_weights", "_law_k"]
theorem csLRows : FnScope NsLRows ["_law_pot_here", "_law_many", "_law_most"] (defScope sLRows) := ⟨rfl, rfl, rfl, by decide +kernel, rfl, by decide +kernel, by decide +kernel⟩

def spRowsL (C : CT) : Sp := spC C PotW (fun ds => ∃ (n : Nat) (m : Int), ds = [.int (n : Int), .int m] ∧ 1 ≤ n ∧ n ≤ 16 ∧ 0 ≤ m ∧ m ≤ 20) fun ds e => ∃ (n : Nat) (m : Int) (rows : List D), ds = [.int (n : Int), .int m] ∧ e = .lst rows ∧ (rows.length : Int) ≤ m + 1 ∧ ∀ d ∈ rows, RowZ n d
theorem ok_rowsL (T : Txt K mg C) (LD : Df P w K mg base 1 "_law_draw" ["_law_pot_here", "_law_size"] (spDraw C)) (LP : Df P w K mg base 2 "_law_pick" ["_law_pot_here", "_law_some"] (spPick C)) (LN : Df P w K mg base 4 "_law_number" ["_law_pot_here", "_law_most"] (spNum C)) {f : Addr} {fd : FuncData} (F : Fun K "_law_rows" "_law_rows" sLRows f fd) :
    FnOk P w K mg base CX0 5 f fd ["_law_pot_here", "_law_many", "_law_most"] (spRowsL C) := by
  refine F.ok csLRows (spC_len fun ds h => by obtain ⟨n, m, rfl, _⟩ := h; rfl) (fun cdv A outer s H vs Q E hr h => ⟨_, (pss_cons (ps_set (i := 3) csLRows.nd rfl (Or.inl rfl) (pe_lst pa_nil))
      (pss_cons (ps_for PassesOwn.never rfl (pi_range1 (by rfl) T.range (pa_cons (pe_df LD hr (pa_cons (pv 0) (pa_cons (pe_op op_add (pv 2) pe_int) pa_nil))) pa_nil)) (pg_name (i := 4) csLRows.nd rfl (Or.inl rfl)) (pss_cons (ps_setLc (i := 5) (own := [("_law_k", 6)]) (g := gName 6) (tt := tYes) rfl csLRows.nd rfl rfl (sw_true rfl rfl rfl (by decide +kernel)) (pi_range1 (by rfl) T.range (pa_cons (pv 1) pa_nil)) (blkOk_by (N := NsLRows) (sc := defScope sLRows) (by decide +kernel)) (fun _ _ _ _ _ => pg_name (i := 6) csLRows.nd rfl (Or.inl rfl)) (fun _ _ _ _ _ => pts_nil) (fun _ _ _ _ _ => by exact (pe_df LP hr (pa_cons (pv 0) (pa_cons (pe_lst (pa_cons pe_int (pa_cons (pe_df LN hr (pa_cons (pv 0) (pa_cons pe_int pa_nil))) (pa_cons (pe_df LN hr (pa_cons (pv 0) (pa_cons pe_int pa_nil))) pa_nil)))) pa_nil)))))
      (pss_one (ps_expr (pe_bm PySem.F.plainAttrs_list PySem.F.slot_list_append PySem.F.type_list_append mt_append (pv 3) (pa_cons (pe_tup (pa_cons (pv 5) (pa_cons (pe_df LN hr (pa_cons (pv 0) (pa_cons pe_int pa_nil))) pa_nil))) pa_nil))))))
      (pss_cons (ps_if (pt_cmpR op_gt (pe_df LD hr (pa_cons (pv 0) (pa_cons pe_int pa_nil))) pe_int (nomark _)) (pss_one (ps_expr (pe_bm PySem.F.plainAttrs_list PySem.F.slot_list_append PySem.F.type_list_append mt_append (pv 3) (pa_cons (pe_tup (pa_cons (pe_op op_rep (pe_lst (pa_cons pe_int pa_nil)) (pv 1)) (pa_cons (pe_df LD hr (pa_cons (pv 0) (pa_cons pe_int pa_nil))) pa_nil))) pa_nil)))) pss_nil)
      (pss_one (ps_ret (pv 3)))))), spC_run h fun p ds hp => ?_⟩)
  obtain ⟨n, m, rfl, n1, n16, m0, m20⟩ := hp
  refine ds_own (df_lst <| da_nil ⟨by decide, ?_⟩) (fun ds => by intro z; cases z)
  refine ds_fors (l := false) (js := [4]) (fun _ i ρ' => ∃ x y z rows, ρ' = [some Sl.pot, some (.val (.int (n : Int))), some (.val (.int m)), some (.own rows), x, y, z] ∧ rows.length ≤ i ∧ ∀ d ∈ rows, RowZ n d) <| di_rng1 <| da_one <| c_draw (n := 0) rfl rfl rfl <| w_op <| w_var rfl <| w_int <| oi_I0 (k := (· + ·)) rfl ⟨_, rfl, by omega, by omega, fun j j0 j1 => ⟨j, rfl, by omega, by omega, ⟨none, none, none, [], rfl, Nat.le_refl _, nofun⟩, ?_, ?_⟩⟩
  · rintro i d ρ' hd ⟨x, y, z, rows, rfl, hl, hrw⟩
    have il : i < j.toNat := by have := (List.getElem?_eq_some_iff.mp hd).1; rwa [rngD_len] at this
    refine ⟨_, dg_name, ?_⟩
    refine ds_set <| DF.de <| df_lc (l := false) (js := [6]) (fun _ i es => es.length = i ∧ ∀ d ∈ es, NmZ d) <| di_rng1 <| da_one <| w_var rfl ⟨(n : Int), rfl, by omega, by omega, ?_, ⟨rfl, nofun⟩, fun i d es hd hI _ => ⟨_, dg_name, dt_yes ⟨fun _ => ?_, fun z => nomatch z⟩⟩, fun ws hI => ?_⟩
    · rw [rngD_len]; exact Nat.le_trans (by omega : (n : Int).toNat ≤ 16) (by decide)
    · refine c_pick rfl rfl rfl <| de_lst <| w_cons <| w_int <| w_cons <| c_num rfl rfl rfl (by decide) (by decide) fun a ha => da_one <| c_num rfl rfl rfl (by decide) (by decide) fun b hb => ⟨by show 3 ≤ sizeLine; decide, _, rfl, by simp, by simp, fun e he => ⟨by rw [List.length_append, hI.1]; rfl, fun d hd => ?_⟩⟩
      rcases List.mem_append.mp hd with hd | hd
      · exact hI.2 d hd
      · cases List.mem_singleton.mp hd
        simp at he
        rcases he with rfl | rfl | rfl
        · exact nmz_int (by decide)
        · exact ha
        · exact hb
    · have hwl : ws.length = n := by have := hI.1; rw [rngD_len] at this; omega
      refine ds_app1 rfl (by omega) <| de_tup <| w_cons <| w_var rfl <| da_one <| c_num rfl rfl rfl (by decide) (by decide) fun b hb => ⟨by show 2 ≤ sizeLine; decide, _, _, _, _, rfl, by rw [List.length_append]; simp; omega, fun d hd => ?_⟩
      rcases List.mem_append.mp hd with hd | hd
      · exact hrw d hd
      · cases List.mem_singleton.mp hd
        exact ⟨ws, b, rfl, hwl, hI.2, hb⟩
  · rintro ρ' ⟨x, y, z, rows, rfl, hl, hrw⟩
    rw [rngD_len] at hl
    have fin : ∀ rows : List D, (rows.length : Int) ≤ m + 1 → (∀ d ∈ rows, RowZ n d) → DS ⟨C, PotW, some p⟩ [some Sl.pot, some (.val (.int (n : Int))), some (.val (.int m)), some (.own rows), x, y, z] (tRet (tVar 3)) { nx := fun _ => ∃ (n' : Nat) (m' : Int) (rows : List D), [D.int (n : Int), .int m] = [.int (n' : Int), .int m'] ∧ D.non = .lst rows ∧ (rows.length : Int) ≤ m' + 1 ∧ ∀ d ∈ rows, RowZ n' d, rt := fun e => ∃ (n' : Nat) (m' : Int) (rows : List D), [D.int (n : Int), .int m] = [.int (n' : Int), .int m'] ∧ e = .lst rows ∧ (rows.length : Int) ≤ m' + 1 ∧ ∀ d ∈ rows, RowZ n' d } :=
      fun rows h1 h2 => ds_frz (i := 3) rfl <| ds_ret <| w_var rfl ⟨n, m, rows, rfl, rfl, h1, h2⟩
    refine ds_ifs <| dt_test <| w_op <| c_draw (n := 0) rfl rfl rfl <| w_int ⟨3, rfl, by decide, by decide, fun d _ _ => w_int <| ob_I0 (k := fun i j => decide (j < i)) rfl ⟨_, rfl, ⟨fun _ => ?_, fun _ => ds_nexts (fin rows (by omega) hrw)⟩⟩⟩
    refine ds_app rfl (by omega) <| de_tup <| w_cons <| DF.de <| df_rep <| DF.de <| df_lst <| da_one <| w_int ⟨by show 1 ≤ sizeLine; decide, _, rfl, w_var rfl ⟨n, rfl, by omega, by simp; omega, da_one <| c_draw (n := 0) rfl rfl rfl <| w_int ⟨10, rfl, by decide, by decide, fun d2 d0 d1 => ⟨by show 2 ≤ sizeLine; decide, ?_⟩⟩⟩⟩
    refine fin _ (by rw [List.length_append]; simp; omega) fun d hd => ?_
    rcases List.mem_append.mp hd with hd | hd
    · exact hrw d hd
    · cases List.mem_singleton.mp hd
      refine ⟨_, _, rfl, by simp, fun q hq => ?_, nmz_int (by omega)⟩
      simp at hq
      rw [hq.2]
      exact nmz_int (by decide)
end
end K13
namespace K13
open PySem L2 GX GD KM
open Evl (Ex)
section
variable {P : Program} {w : World} {K : PySem.W.Frag} {mg : Str → Option Value} {base : Heap} {C : CT} {A : Amb} {ρ : Ro} {te : TE} {tl : TA} {R : D → Prop}
/-- from a pair to the Ratio -/
def ofPr : D → D
  | .tup [.int p, .int q] => rt (Rat.divInt p q)
  | d => d
theorem ofPr_pr (r : Rat) : ofPr (pr r) = rt r := by show rt (Rat.divInt r.num r.den) = rt r; rw [self_div]
theorem c_mk {a b : TE} {r : Rat} {R : D → Prop} (T : Txt K mg C) (hA : A.C = C) (h : DE A ρ a fun x => x = .int r.num ∧ DE A ρ b fun y => y = .int (r.den : Int) ∧ Sz 1900 r ∧ R (rt r)) : DE A ρ (tMake (C 0).1 (spI C 0 preR postR) [] E0 (tCons a (tCons b tNil))) R := by
  subst hA
  refine de_make (des := []) (fun _ => .nil) <| dla_cons <| dl_de <| h.imp fun x hx => ?_
  obtain ⟨rfl, hb⟩ := hx
  refine dla_cons <| dl_de <| hb.imp fun y hy => ?_
  obtain ⟨rfl, z, q⟩ := hy
  refine dla_nil ⟨⟨_, _, rfl, dz r, pw_le z.den (by decide)⟩, fun es he => ?_⟩
  obtain ⟨h1, h2⟩ := mk_of (self_div r) q es he
  exact ⟨by rw [T.fR]; exact h1, h2⟩
def RowsZ (n : Nat) (rows : List D) : Prop := rows.length ≤ 40 ∧ ∀ d ∈ rows, RowZ n d
def vs (rows : List D) : List (List Rat × Rat) := rows.map rv
theorem vs_sz {n : Nat} {rows : List D} (h : RowsZ n rows) : SzR 12 (vs rows) ∧ WfP n (vs rows) := by
  constructor
  · intro r hr
    obtain ⟨d, hd, rfl⟩ := List.mem_map.mp hr
    obtain ⟨ws, b, rfl, hl, hw, hb⟩ := (h.2 d hd).ex
    refine ⟨hb.2, fun q hq => ?_⟩
    obtain ⟨x, hx, rfl⟩ := List.mem_map.mp hq
    exact (hw x hx).2
  · intro r hr
    obtain ⟨d, hd, rfl⟩ := List.mem_map.mp hr
    obtain ⟨ws, b, rfl, hl, hw, hb⟩ := (h.2 d hd).ex
    show (ws.map vl).length = n
    rw [List.length_map, hl]
theorem SzR.mono {n m : Nat} {rows : List (List Rat × Rat)} (h : SzR n rows) (e : n ≤ m) : SzR m rows := fun r hr => ⟨(h r hr).1.mono e, fun q hq => ((h r hr).2 q hq).mono e⟩
abbrev sLShown : Stmt := top 42
abbrev NsLShown : List Str := ["_law_rows_here", "_law_found", "_law_weights", "_law_bound", "_law_pairs", "_law_one"]
theorem csLShown : FnScope NsLShown ["_law_rows_here"] (defScope sLShown) := ⟨rfl, rfl, rfl, by decide +kernel, rfl, by decide +kernel, by decide +kernel⟩

def spShown (C : CT) : Sp := spD C (fun ds => ∃ n rows, ds = [.lst rows] ∧ RowsZ n rows ∧ n ≤ 16) fun ds e => ∃ rows, ds = [.lst rows] ∧ e = .str (rowsT (vs rows))
theorem ok_shown (T : Txt K mg C) (MR : MkR P w K mg base C) (LPR : Df P w K mg base 3 "_law_pair" ["_law_number_here"] (spPair C)) (MR_ : Mt P w K mg base C 0 1 "__repr__" ["self"] (spRepr C)) {f : Addr} {fd : FuncData} (F : Fun K "_law_shown" "_law_shown" sLShown f fd) : FnG P w K mg base CX0 8 f fd ["_law_rows_here"] (spShown C) := by
  refine okG F csLShown (spD_len fun ds h => by obtain ⟨n, rows, rfl, _⟩ := h; rfl) (fun cdv A outer s H vs_ Q E gd hr h => ⟨_, (pss_cons (ps_set (i := 1) csLShown.nd rfl (Or.inl rfl) (pe_lst pa_nil))
      (pss_cons (ps_for PassesOwn.never rfl (pi_list (pv 0)) (pg_tup (by rfl) (pgs_cons (pg_name (i := 2) csLShown.nd rfl (.inl rfl)) (pgs_cons (pg_name (i := 3) csLShown.nd rfl (.inl rfl)) pgs_nil))) (pss_cons (ps_setLc (i := 4) (own := [("_law_one", 5)]) (g := gName 5) (tt := tYes) rfl csLShown.nd rfl rfl (sw_true rfl rfl rfl (by decide +kernel)) (pi_list (pv 2)) (blkOk_by (N := NsLShown) (sc := defScope sLShown) (by decide +kernel)) (fun _ _ _ _ _ => pg_name (i := 5) csLShown.nd rfl (Or.inl rfl)) (fun _ _ _ _ _ => pts_nil) (fun _ _ _ _ _ => by exact (pe_df LPR hr (pa_cons (pv 5) pa_nil))))
      (pss_one (ps_expr (pe_bm PySem.F.plainAttrs_list PySem.F.slot_list_append PySem.F.type_list_append mt_append (pv 1) (pa_cons (pe_tup (pa_cons (pe_lc (own := [("_law_one", 5)]) (g := gName 5) (tt := tYes) rfl csLShown.nd (pi_list (pv 4)) (blkOk_by (N := NsLShown) (sc := defScope sLShown) (by decide +kernel)) (fun _ _ _ _ _ => pg_name (i := 5) csLShown.nd rfl (Or.inl rfl)) (fun _ _ _ _ _ => pts_nil) (fun _ _ _ _ _ => by exact (pe_make MR.M MR.G (hr.mono (by decide)) (by rfl) T.mgRatio MR.b2 .nil pass0 (pa_cons (pe_ix (ix_seqK K rfl) (pv 5) pe_int (fun _ _ => rfl)) (pa_cons (pe_ix (ix_seqK K rfl) (pv 5) pe_int (fun _ _ => rfl)) pa_nil))))) (pa_cons (pe_make MR.M MR.G (hr.mono (by decide)) (by rfl) T.mgRatio MR.b2 .nil pass0 (pa_cons (pe_ix ix_seq (pe_df LPR hr (pa_cons (pv 3) pa_nil)) pe_int (fun _ _ => rfl)) (pa_cons (pe_ix ix_seq (pe_df LPR hr (pa_cons (pv 3) pa_nil)) pe_int (fun _ _ => rfl)) pa_nil))) pa_nil))) pa_nil))))))
      (pss_one (ps_ret (pe_callB (cr_reprX (C := C) (k := 1) gd hr) (by rfl) T.repr (by decide +kernel) (pa_cons (pv 1) pa_nil)))))), spD_run h fun ds hp => ?_⟩)
  obtain ⟨n, rows, rfl, hz, n16⟩ := hp
  refine ds_own (df_lst <| da_nil ⟨by decide, ?_⟩) (fun ds => by intro z; cases z)
  refine ds_fors (l := true) (js := [2, 3]) (fun _ i ρ' => ∃ x y z u, ρ' = [some (.arg (.lst rows)), some (.own ((rows.take i).map fun d => trow (rv d))), x, y, z, u]) (dm_list (dm_arg rfl ⟨rows, rfl, ⟨none, none, none, none, rfl⟩, ?_, ?_⟩))
  · rintro i d ρ' hd ⟨x, y, z, u, rfl⟩
    obtain ⟨ws, b, rfl, hl, hw, hb⟩ := (hz.2 d (List.mem_of_getElem? hd)).ex
    have il : i < rows.length := (List.getElem?_eq_some_iff.mp hd).1
    have l40 := hz.1
    refine ⟨_, dg_tup2L, ?_⟩
    rw [Sl_val hb.1, show slF true (D.lst ws) = some (.arg (.lst ws)) from rfl]
    refine ds_set <| DF.de <| df_map (l := true) (js := [5]) (fun d => pr (vl d)) (dm_list (dm_arg rfl ⟨ws, rfl, by omega, fun j e he => ⟨_, dg_num (hw e (List.mem_of_getElem? he)).1, c_pair rfl (hw e (List.mem_of_getElem? he)).1 rfl rfl⟩, ?_⟩))
    refine ds_app1 rfl (by rw [List.length_map, List.length_take]; omega) <| de_tup <| w_cons <| DF.de <| df_map (l := false) (js := [5]) ofPr <| di_list <| w_var rfl ⟨_, rfl, by rw [List.length_map]; omega, fun j e he => ?_, ?_⟩
    · rw [List.getElem?_map] at he
      cases hx : ws[j]? with
      | none => rw [hx] at he; cases he
      | some q =>
        rw [hx] at he
        cases he
        have hq := hw q (List.mem_of_getElem? hx)
        refine ⟨_, dg_name, c_mk (r := vl q) T rfl <| w_op <| w_var rfl <| w_int <| ox_tup (j := 0) rfl rfl ⟨rfl, w_op <| w_var rfl <| w_int <| ox_tup (j := 1) rfl rfl ⟨rfl, hq.2.mono (by decide), (ofPr_pr _).symm⟩⟩⟩
    · refine da_one <| c_mk (r := vl b) T rfl <| w_op <| c_pair rfl hb.1 rfl <| w_int <| ox_tup (j := 0) rfl rfl ⟨rfl, w_op <| c_pair rfl hb.1 rfl <| w_int <| ox_tup (j := 1) rfl rfl ⟨rfl, hb.2.mono (by decide), by show 2 ≤ sizeLine; decide, ?_⟩⟩
      have e1 : (ws.map fun d => pr (vl d)).map ofPr = (ws.map vl).map rt := by
        rw [List.map_map, List.map_map]
        apply List.map_congr_left
        intro x _
        exact ofPr_pr _
      have e2 : (rows.take (i + 1)).map (fun d => trow (rv d)) = (rows.take i).map (fun d => trow (rv d)) ++ [D.tup [.lst ((ws.map vl).map rt), rt (vl b)]] := by
        rw [List.take_add_one, hd, List.map_append]
        rfl
      rw [e1, e2]
      exact ⟨_, _, _, _, rfl⟩
  · rintro ρ' ⟨x, y, z, u, rfl⟩
    rw [List.take_length]
    refine ds_frz (i := 1) rfl <| ds_ret <| de_cb <| da_one <| w_var rfl <| ?_
    have e1 : (rows.map fun d => trow (rv d)) = (vs rows).map trow := by unfold vs; rw [List.map_map]; rfl
    rw [e1]
    have sz := (vs_sz hz).1.mono (show 12 ≤ 1900 by decide)
    refine ca_repr (shw_rows (fun r hr => own_rp hr MR_) sz (fun r hr => by rw [(vs_sz hz).2 r hr]; exact n16) (by unfold vs; rw [List.length_map]; exact hz.1)) ?_ ⟨rows, rfl, rfl⟩
    have := dep_rows (vs rows)
    rw [dep]; omega
/-! ### the pot -/
abbrev sLPot : Stmt := top 31
abbrev NsLPot : List Str := ["_law_script", "_law_k", "_law_cell"]
theorem csLPot : FnScope NsLPot ["_law_script", "_law_k"] (defScope sLPot) := ⟨rfl, rfl, rfl, by decide +kernel, rfl, by decide +kernel, by decide +kernel⟩

theorem at_of {α : Type} {xs : List α} {i : Int} {j : Nat} {x : α} (e : i = (j : Int)) (h : xs[j]? = some x) : atI xs i = some x := by
  subst e
  unfold atI
  rw [ixN_of (List.getElem?_eq_some_iff.mp h).1]
  exact h
def spPot (K : PySem.W.Frag) : Sp := fun vs H Q _ => ∃ (a : Addr) (ns : List Int) (k : Int), vs = [.ref a, .int k] ∧ SqL K H a (ns.map V.int) ∧ 0 ≤ k ∧ k ≤ 10 ∧ ∀ p H' o, H p = none → Ex H H' → H' p = some o → PotW o → Q (.ref p) H'
theorem ok_pot (T : Txt K mg C) {f : Addr} {fd : FuncData} (F : Fun K "_law_pot" "_law_pot" sLPot f fd) : FnOk P w K mg base CX0 1 f fd ["_law_script", "_law_k"] (spPot K) := by
  refine F.ok csLPot (fun vs H Q E h => ?_) (fun cdv A outer s H vs Q E hr h => ?_)
  · obtain ⟨a, ns, k, rfl, _⟩ := h
    rfl
  · obtain ⟨a, ns, k, rfl, hs, k0, k1, kk⟩ := h
    refine ⟨_, (pss_cons (ps_set (i := 2) csLPot.nd rfl (Or.inl rfl) (pe_ifExp (pt_cmpR op_lt (pv 1) (pe_callB call_len_seq (by rfl) T.len PySem.boot_len (pa_cons (pv 0) pa_nil)) (nomark _)) (pe_callB call_abs (by rfl) T.abs (by decide +kernel) (pa_cons (pe_ix ix_list (pv 0) (pv 1) (fun _ _ => rfl)) pa_nil)) (pe_op op_add (pe_op op_mul pe_int (pv 1)) pe_int)))
      (pss_one (ps_ret (pe_lst (pa_cons (pe_callB (call_max2 rfl) (by rfl) T.max (by decide +kernel) (pa_cons pe_int (pa_cons (pe_op op_sub (pv 2) (pe_op op_pow pe_int pe_int)) pa_nil))) (pa_cons (pe_op op_add (pe_op op_mod (pe_callTy call_int1 (by rfl) T.int (by decide +kernel) (pa_cons (pe_op op_add (pe_op op_add (pe_op op_mul (pe_op op_mod (pe_callTy call_int1 (by rfl) T.int (by decide +kernel) (pa_cons (pv 2) pa_nil)) pe_int) pe_int) (pe_op op_mul pe_int (pv 1))) pe_int) pa_nil)) pe_int) pe_int) pa_nil)))))), ?_⟩
    have fin : ∀ c : Int, 0 ≤ c → (tRet (tLst (tCons (tCB (fun xs H Q => ∃ i j, xs = [.int i, .int j] ∧ Q (.int (if j > i then j else i)) H) (tCons (tC (.int 0)) (tCons (tOp (rI0 fun i j => .int (i - j)) (tVar 2) (tOp (rI CPow fun i j => .int (i ^ j.toNat)) (tC (.int 10)) (tC (.int 18)))) tNil)))
        (tCons (tOp (rI0 fun i j => .int (i + j)) (tOp (rI (fun _ j => 0 < j) fun i j => .int (i % j)) (tCB (fun xs H Q => (∃ i, xs = [.int i] ∧ Q (.int i) H) ∨ ∃ k, xs = [.bl k] ∧ Q (.int (if k then 1 else 0)) H) (tCons (tOp (rI0 fun i j => .int (i + j)) (tOp (rI0 fun i j => .int (i + j)) (tOp (rI CMul fun i j => .int (i * j)) (tOp (rI (fun _ j => 0 < j) fun i j => .int (i % j)) (tCB (fun xs H Q => (∃ i, xs = [.int i] ∧ Q (.int i) H) ∨ ∃ k, xs = [.bl k] ∧ Q (.int (if k then 1 else 0)) H) (tCons (tVar 2) tNil)) (tC (.int 2147483529))) (tC (.int 40037))) (tOp (rI CMul fun i j => .int (i * j)) (tC (.int 6029)) (tVar 1))) (tC (.int 41))) tNil)) (tC (.int 2147483543))) (tC (.int 1))) tNil))))
        { nx := fun _ H' => Q .non H', rt := Q } [some (.ref a), some (.int k), some (.int c)] H := by
      intro c c0
      refine ⟨_, rfl, _, _, rfl, rfl, ⟨by decide, by decide, by decide⟩, _, _, rfl, rfl, _, _, rfl, ?_⟩
      refine ⟨_, rfl, .inl ⟨_, rfl, _, _, rfl, rfl, (by show (0 : Int) < 2147483529; decide), _, _, rfl, rfl, .inr ⟨by decide, by decide⟩, _, rfl, _, _, rfl, rfl, .inl ⟨by decide, by decide⟩, _, _, rfl, rfl, _, _, rfl, rfl, .inl ⟨_, rfl, _, _, rfl, rfl, (by show (0 : Int) < 2147483543; decide), _, _, rfl, rfl, ?_⟩⟩⟩
      refine ⟨(by show 2 ≤ sizeLine; decide), fun p hp => kk p _ _ hp (Evl.Ex.new hp) upd_same ⟨_, _, rfl, ?_, ?_, ?_⟩⟩
      · split <;> omega
      · have := Int.emod_nonneg (c % 2147483529 * 40037 + 6029 * k + 41) (show (2147483543 : Int) ≠ 0 by decide)
        omega
      · have := Int.emod_lt_of_pos (c % 2147483529 * 40037 + 6029 * k + 41) (show (0 : Int) < 2147483543 by decide)
        omega
    refine ⟨_, rfl, _, rfl, a, _, rfl, .inl hs, _, _, rfl, rfl, _, rfl, ite2 (fun z => ?_) (fun z => ?_)⟩
    · have z' : k < ((ns.map V.int).length : Int) := of_decide_eq_true z
      rw [List.length_map] at z'
      have hk : k.toNat < ns.length := by omega
      refine ⟨_, rfl, _, rfl, a, _, k, .int ns[k.toNat], rfl, rfl, hs, at_of (j := k.toNat) (by omega) (by rw [List.getElem?_map, List.getElem?_eq_getElem hk]; rfl), _, rfl, fin _ ?_⟩
      split <;> omega
    · exact ⟨_, rfl, _, _, rfl, rfl, .inl ⟨by decide, by decide⟩, _, _, rfl, rfl, fin _ (by omega)⟩
end
end K13
namespace K13
open PySem L2 GX GD KM
open Evl (Ex)
/-- a method that shows containers -/
structure MtG (P : Program) (w : World) (K : PySem.W.Frag) (mg : Str → Option Value) (base : Heap) (C : CT) (c n : Nat) (x : Str) (ps : List Str) (sp : Sp) where
  f : Addr
  fd : FuncData
  F : FnG P w K mg base CX0 n f fd ps sp
  m : Meth K (C c).1 x f
  b : Binds K fd ps []
  cl : Cls K (C c).1
section
variable {P : Program} {w : World} {K : PySem.W.Frag} {mg : Str → Option Value} {base : Heap} {C : CT} {A : Amb} {ρ : Ro} {te : TE} {tl : TA} {R : D → Prop}
theorem w_repr {X : Cx} {j : Nat} (hA : A.C = C) (h : DE A ρ te fun x => ∃ t, Shw (OwnR X C 1) x t ∧ 1 + dep x + 3 ≤ j ∧ R (.str t)) : DE A ρ (tCB (rRpX X C 1 j) (tCons te tNil)) R := by
  subst hA
  exact de_cb <| da_one <| h.imp fun x ⟨t, a, b, c⟩ => ca_repr a b c
theorem st_ne {t : Str} {S : Bool → Prop} (r : S false) : OpD A rNe (.str t) (.str t) fun d => ∃ b, d = .bl b ∧ S b := od_ne (b := true) (by simp [scD]) ⟨_, rfl, r⟩
theorem c_unkP {i n : Nat} {rows : List (List Rat × Rat)} (hA : A.C = C) (h1 : ρ[i]? = some (some (Sl.val (prog n rows)))) (r : R (.int (n : Int))) : DE A ρ (tProp (C 1).1 (spUnk C) [] E0 (tVar i)) R := by
  subst hA
  refine de_prop <| w_var h1 ⟨_, rfl, ⟨n, rows, rfl⟩, fun d hd => ?_⟩
  obtain ⟨m, r2, e, rfl⟩ := hd
  rw [← (prog_inj (List.cons.inj e).1).1]
  exact r
theorem c_lenP {i n m : Nat} {rows : List (List Rat × Rat)} (hA : A.C = C) (h1 : ρ[i]? = some (some (Sl.val (prog n rows)))) (hm : rows.length = m) (hl : m ≤ 1000) (r : R (.int (m : Int))) : DE A ρ (tCB (rLenO (C 1).1 (spLen C) E0) (tCons (tVar i) tNil)) R := by
  subst hA
  refine w_lenO <| w_var h1 ⟨_, rfl, ⟨n, rows, rfl⟩, fun d hd => ?_⟩
  obtain ⟨k, r2, e, rfl⟩ := hd
  rw [← (prog_inj (List.cons.inj e).1).2, hm]
  exact ⟨_, rfl, by omega, by omega, r⟩
theorem n_get {i j n k : Nat} {rows : List (List Rat × Rat)} {r : List Rat × Rat} (hA : A.C = C) (h1 : ρ[i]? = some (some (Sl.val (prog n rows)))) (h2 : ρ[j]? = some (some (Sl.val (.int (k : Int))))) (hk : rows[k]? = some r) (q : R (trow r)) : DN A ρ (tOp (rIxO (C 1).1 (spGet C) E0) (tVar i) (tVar j)) R := by
  subst hA
  refine n_ixO <| w_var h1 ⟨_, rfl, w_var h2 ⟨_, rfl, ⟨n, rows, k, rfl, (List.getElem?_eq_some_iff.mp hk).1⟩, fun d hd => ?_⟩⟩
  obtain ⟨m, r2, k2, s, e, hs, rfl⟩ := hd
  obtain ⟨e1, e2⟩ := List.cons.inj e
  have e3 := (List.cons.inj e2).1
  injection e3 with e3
  have : k = k2 := by omega
  subst this
  rw [← (prog_inj e1).2, hk] at hs
  cases hs
  exact q
theorem c_shownL {i n : Nat} {rows : List D} (hA : A.C = C) (h1 : ρ[i]? = some (some (Sl.val (.lst rows)))) (hz : RowsZ n rows) (n16 : n ≤ 16) (r : R (.str (rowsT (vs rows)))) : DE A ρ (tCall (spShown C) [] E0 (tCons (tVar i) tNil)) R := by
  subst hA
  refine de_call0 <| dla_cons <| dl_val h1 <| dla_nil ⟨⟨n, rows, rfl, hz, n16⟩, fun d hd => ?_⟩
  obtain ⟨r2, e, rfl⟩ := hd
  cases e
  exact r
theorem c_dot {i j : Nat} {ws us : List D} (hA : A.C = C) (h1 : ρ[i]? = some (some (Sl.val (.lst ws)))) (h2 : ρ[j]? = some (some (Sl.val (.lst us)))) (z1 : ∀ d ∈ ws, NmZ d) (z2 : ∀ d ∈ us, NmZ d) (hl : ws.length ≤ 100) (r : R (pr (dot (ws.map vl) (us.map vl)))) : DE A ρ (tCall (spDot C) [] E0 (tCons (tVar i) (tCons (tVar j) tNil))) R := by
  subst hA
  refine de_call0 <| dla_cons <| dl_val h1 <| dla_cons <| dl_val h2 <| dla_nil ⟨⟨false, ws, false, us, rfl, z1, z2, hl⟩, fun d hd => ?_⟩
  obtain ⟨t, ws2, t2, us2, e, rfl⟩ := hd
  obtain ⟨e1, e2⟩ := List.cons.inj e
  have e3 := (List.cons.inj e2).1
  have a1 := seqD_inj (t := false) (t2 := t) e1
  have a2 := seqD_inj (t := false) (t2 := t2) e3
  rw [← a1, ← a2]
  exact r
/-- o.m(k = e) that hands back what is new -/
theorem dn_methK {c : Nat} {m : Str} {ta : TE} {pre : List D → Prop} {post : List D → D → Prop} {E : XK} (hm : m ∉ (A.C c).2)
    (h : DE A ρ ta fun x => ∃ es, x = .ins c es ∧ DL A ρ te fun d => pre [x, d] ∧ ∀ z, post [x, d] z → R z) : DN A ρ (tMethK (A.C c).1 m (spF A.C pre post) E ta (tCons te tNil)) R := fun G0 H0 σ G H Q e q => by
  refine h G0 H0 σ G H _ e fun x v G2 H2 hx hv s2 => ?_
  obtain ⟨es, rfl, hx⟩ := hx
  cases id hv with
  | ins h1 r _ =>
    refine ⟨_, _, _, rfl, s2.h _ _ h1, by rw [lookup_fsOf_out hm]; rfl, ?_⟩
    refine hx G0 H0 σ G2 H2 _ (e.step s2) fun d u G3 H3 hp r3 s3 => ⟨rfl, G3, _, s3.h, .cons (.of (hv.mono s3.g)) ((LoL.cons r3 .nil).mono mns_none (Ex.refl _)), hp.1, fun d v G4 H4 hd r4 s4 => ?_⟩
    have s23 := s2.trans s3
    exact q d v G4 H4 (hp.2 d hd) (r4.weak (s23.back fun b z => let ⟨o, ho, _⟩ := s23.has.some'.2 b z; ⟨o, ho⟩)) (s23.trans (((e.step s2).step s3).pure s4))
theorem no_sums (T : Txt K mg C) : ("sums" : Str) ∉ (C 1).2 := by rw [T.fP]; decide +kernel
/-- what sums gives -/
def sumD (rows : List (List Rat × Rat)) (us : List D) : List D := rows.map fun r => rt (dot r.1 (us.map vl))
theorem sums_pre {n : Nat} {rows us : List D} (t : Bool) (hz : RowsZ n rows) (hl : rows.length ≤ 24) (n16 : n ≤ 16) (hu : us.length = n) (zu : ∀ d ∈ us, NmZ d) {S : List D → Prop} (r : S (sumD (vs rows) us)) :
    (∃ (n' : Nat) (rows' : List (List Rat × Rat)) (t' : Bool) (us' : List D), [prog n (vs rows), seqD t us] = [prog n' rows', seqD t' us'] ∧ us'.length = n' ∧ n' ≤ 16 ∧ rows'.length ≤ 24 ∧ (∀ d ∈ us', Nm d ∧ Sz 12 (vl d)) ∧ WfP n' rows' ∧ ∀ r ∈ rows', ∀ q ∈ r.1, Sz 12 q) ∧
    ∀ z : D, (∃ (n' : Nat) (rows' : List (List Rat × Rat)) (t' : Bool) (us' : List D), [prog n (vs rows), seqD t us] = [prog n' rows', seqD t' us'] ∧ z = .lst (rows'.map fun r => rt (dot r.1 (us'.map vl)))) → ∃ ds, z = .lst ds ∧ (∀ e ∈ ds, leaf e = true) ∧ S ds := by
  refine ⟨⟨n, vs rows, t, us, rfl, hu, n16, by unfold vs; rw [List.length_map]; exact hl, zu, (vs_sz hz).2, fun r hr => ((vs_sz hz).1 r hr).2⟩, fun z hz => ?_⟩
  obtain ⟨n2, rows2, t2, us2, e, rfl⟩ := hz
  obtain ⟨e1, e2⟩ := List.cons.inj e
  have e3 := seqD_inj (List.cons.inj e2).1
  rw [← (prog_inj e1).2, ← e3]
  refine ⟨_, rfl, fun e he => ?_, r⟩
  obtain ⟨x, _, rfl⟩ := List.mem_map.mp he
  rfl
theorem shw_nums {own : Nat → List D → Str → Prop} (ho : ∀ r : Rat, Sz 1900 r → own 0 [.int r.num, .int (r.den : Int)] (rpT r)) : ∀ {us : List D}, (∀ d ∈ us, NmZ d) → ∃ ts, ShwL own us ts ∧ ts.length = us.length ∧ ∀ t ∈ ts, t.length ≤ 3851
  | [], _ => ⟨[], .nil, rfl, nofun⟩
  | d :: us, h => by
    obtain ⟨ts, h1, h2, h3⟩ := shw_nums ho (us := us) fun x hx => h x (List.mem_cons_of_mem _ hx)
    obtain ⟨hn, hz⟩ := h d List.mem_cons_self
    cases hn with
    | int i =>
      have l : i.natAbs.log2 < 1920 := log1920 (n := 12) (by
        have := hz.num
        simpa [vl] using this) (by decide) (by decide)
      exact ⟨iT i :: ts, .cons (.int l) h1, by simp [h2], fun t ht => by
        rcases List.mem_cons.mp ht with rfl | ht
        · exact Nat.le_trans (len_i l) (by decide)
        · exact h3 t ht⟩
    | rt r =>
      have z : Sz 1900 r := by have := hz.mono (show 12 ≤ 1900 by decide); rwa [vl_rt] at this
      exact ⟨rpT r :: ts, .cons (.ins (ho r z)) h1, by simp [h2], fun t ht => by
        rcases List.mem_cons.mp ht with rfl | ht
        · exact rp_len z
        · exact h3 t ht⟩
end
end K13
namespace K13
open PySem L2 GX GD KM
open Evl (Ex)
section
variable {P : Program} {w : World} {K : PySem.W.Frag} {mg : Str → Option Value} {base : Heap} {C : CT} {A : Amb} {ρ : Ro} {te : TE} {tl : TA} {R : D → Prop}
theorem vs_len (rows : List D) : (vs rows).length = rows.length := by unfold vs; rw [List.length_map]
theorem shr {X : Cx} {n : Nat} {rows : List D} (hZ : RowsZ n rows) (n16 : n ≤ 16) (MR_ : Mt X.prog X.w X.K X.mg X.base C 0 1 "__repr__" ["self"] (spRepr C)) : Shw (OwnR X C 1) (.lst ((vs rows).map trow)) (rowsT (vs rows)) :=
  shw_rows (fun r hr => own_rp hr MR_) ((vs_sz hZ).1.mono (by decide)) (fun r hr => by rw [(vs_sz hZ).2 r hr]; exact n16) (by rw [vs_len]; exact hZ.1)
theorem dep_vs (rows : List D) : dep (.lst ((vs rows).map trow)) ≤ 3 := by have := dep_rows (vs rows); rw [dep]; omega
theorem progT_eq (n : Nat) (rows : List (List Rat × Rat)) : progT n rows = (((Str.ofString "Program(" ++ iT (n : Int)) ++ Str.ofString ", ") ++ rowsT rows) ++ Str.ofString ")" := by
  unfold progT
  rw [show Str.empty ++ Str.ofString "Program(" = Str.ofString "Program(" from by decide +kernel]
theorem c_reprP {i n : Nat} {rows : List (List Rat × Rat)} (hA : A.C = C) (h1 : ρ[i]? = some (some (Sl.val (prog n rows)))) (n16 : n ≤ 16) (hl : rows.length ≤ 40) (sz : SzR 1900 rows) (wf : WfP n rows)
    (r : R (.str ((((Str.ofString "Program(" ++ iT (n : Int)) ++ Str.ofString ", ") ++ rowsT rows) ++ Str.ofString ")"))) : DE A ρ (tCB (rStrOwn (C 1).1 (spReprP C) E0) (tCons (tVar i) tNil)) R := by
  subst hA
  refine w_reprG <| w_var h1 ⟨_, rfl, ⟨n, rows, rfl, n16, hl, sz, wf⟩, fun d hd => ?_⟩
  obtain ⟨m, r2, e, rfl⟩ := hd
  have e1 := prog_inj (List.cons.inj e).1
  refine ⟨_, rfl, ?_⟩
  rw [← e1.1, ← e1.2, progT_eq]
  exact r
def idxD : D → Nat
  | .int i => i.toNat
  | _ => 0
def rowAt (rows : List (List Rat × Rat)) (d : D) : D := trow (rows.getD (idxD d) ([], 0))
theorem rowAt_all (rows : List (List Rat × Rat)) : (rngD 0 rows.length).map (rowAt rows) = rows.map trow := by
  refine List.ext_getElem? fun i => ?_
  rw [List.getElem?_map, List.getElem?_map]
  rcases Nat.lt_or_ge i rows.length with h | h
  · have h1 : (rngD 0 rows.length)[i]? = some (.int (0 + (i : Int))) := by
      have h2 : i < (rngD 0 rows.length).length := by rw [rngD_len]; exact h
      rw [List.getElem?_eq_getElem h2, rngD_get (List.getElem?_eq_getElem h2)]
    rw [h1, List.getElem?_eq_getElem h]
    show some (trow (rows.getD ((0 + (i : Int)).toNat) ([], 0))) = _
    rw [show (0 + (i : Int)).toNat = i from by omega, List.getD_eq_getElem?_getD, List.getElem?_eq_getElem h]
    rfl
  · rw [List.getElem?_eq_none (by rw [rngD_len]; exact h), List.getElem?_eq_none h]
    rfl
theorem c_mkP (T : Txt K mg C) (hA : A.C = C) (h : DLA A ρ tl fun ds => ∃ (n : Nat) (t : Bool) (rows : List D), ds = [.int (n : Int), seqD t rows] ∧ preP ds ∧ R (prog n (rows.map rv))) : DE A ρ (tMake (C 1).1 (spI C 1 preP postP) [] E0 tl) R := by
  subst hA
  exact de_make (des := []) (fun _ => .nil) (h.imp fun ds ⟨n, t, rows, e, hp, r⟩ => by subst e; exact e_make T hp r)
theorem dep_nums : ∀ {us : List D}, (∀ d ∈ us, NmZ d) → depL us = 0
  | [], _ => rfl
  | d :: us, h => by
    rw [depL, dep_nums fun x hx => h x (List.mem_cons_of_mem _ hx)]
    have := (h d List.mem_cons_self).1
    cases this <;> rfl
def vpB (i : Nat) (ρ : Ro) : Bool := (List.range ρ.length).all fun j => j == i || match ρ[j]? with
  | some (some (.val _)) => true
  | some (some .pot) => true
  | some none => true
  | _ => false
theorem vp_of {i : Nat} (h : vpB i ρ = true) : Vp i ρ := fun j s n q => by
  have jl : j < ρ.length := (List.getElem?_eq_some_iff.mp q).1
  have := (List.all_eq_true.mp h) j (List.mem_range.mpr jl)
  rw [q] at this
  cases s with
  | val d => exact .inl ⟨d, rfl⟩
  | pot => exact .inr rfl
  | arg d => simp [n] at this
  | own d => simp [n] at this
  | ob a b c d => simp [n] at this
def dues (rows us : List D) : List Rat := rows.map fun d => dot (rv d).1 (us.map vl)
theorem dues_eq (rows us : List D) : (rows.map fun d => pr (dot (rv d).1 (us.map vl))) = (dues rows us).map pr := by unfold dues; rw [List.map_map]; rfl
theorem sums_eq (rows us : List D) : (sumD (vs rows) us).map (fun d => pr (vl d)) = (dues rows us).map pr := by
  unfold sumD dues vs
  rw [List.map_map, List.map_map, List.map_map]
  apply List.map_congr_left
  intro x _
  show pr (vl (rt _)) = pr _
  rw [vl_rt]
def prP (r : Rat) : PyData := .tuple [.int r.num, .int (r.den : Int)]
theorem pl_pr (r : Rat) : Pl (pr r) (prP r) := .tup (.cons (.int _) (.cons (.int _) .nil))
theorem pairs_shaped (rs : List Rat) : SeqAt.shaped (.list (rs.map prP)) = true :=
  shaped_map (n := 1) (fun r => by simp [prP, PyData.canLay0, PyData.canLayAll0]) (fun r => by simp [prP, PyData.depth, PyData.depthAll]) (by decide) rs
abbrev sLIs : Stmt := top 43
abbrev NsLIs : List Str := ["_law_pot_here", "_law_program", "_law_many", "_law_rows_here", "_law_told", "_law_place", "_law_values", "_law_k", "_law_due", "_law_weights", "_law_bound", "_law_shown_here", "_law_sums", "_law_one"]
theorem csLIs : FnScope NsLIs ["_law_pot_here", "_law_program", "_law_many", "_law_rows_here"] (defScope sLIs) := ⟨rfl, rfl, rfl, by decide +kernel, rfl, by decide +kernel, by decide +kernel⟩

def spIs (C : CT) : Sp := spC C PotW (fun ds => ∃ n rows, ds = [prog n (vs rows), .int (n : Int), .lst rows] ∧ 1 ≤ n ∧ n ≤ 16 ∧ rows.length ≤ 24 ∧ ∀ d ∈ rows, RowZ n d) fun ds e => e = .bl true
theorem ok_is (T : Txt K mg C) (MP : MkP P w K mg base C) (DP_unk : Pr P w K mg base C 1 "unknowns" (spUnk C)) (M_len : Mt P w K mg base C 1 1 "__len__" ["self"] (spLen C)) (M_rows : Mt P w K mg base C 1 1 "rows" ["self"] (spRws C))
    (M_get : Mt P w K mg base C 1 5 "__getitem__" ["self", "at"] (spGet C)) (M_eq : Mt P w K mg base C 1 6 "__eq__" ["self", "other"] (spEqP C)) (M_repr : MtG P w K mg base C 1 7 "__repr__" ["self"] (spReprP C)) (M_sums : Mt P w K mg base C 1 7 "sums" ["self", "values"] (spSums C))
    (KB_sums : KBn K M_sums.fd ["self", "values"] 1 ["values"] (fun us ws => us ++ ws) (fun vs zs => vs ++ zs)) (MR_ : Mt P w K mg base C 0 1 "__repr__" ["self"] (spRepr C))
    (fG : PySem.W.fnIn K M_get.f = true) (ne1 : PySem.W.findIn K (.ref (C 1).1) "__ne__" = some (some (.builtin "object.__ne__"))) (ne2 : PySem.W.mroIn K (C 1).1 (.type "object") = some true)
    (LS : Dg P w K mg base 8 "_law_shown" ["_law_rows_here"] (spShown C)) (LN : Df P w K mg base 4 "_law_number" ["_law_pot_here", "_law_most"] (spNum C)) (LDT : Df P w K mg base 4 "_law_dot" ["_law_some", "_law_others"] (spDot C)) (LPR : Df P w K mg base 3 "_law_pair" ["_law_number_here"] (spPair C))
    {f : Addr} {fd : FuncData} (F : Fun K "_law_is" "_law_is" sLIs f fd) : FnG P w K mg base CX0 10 f fd ["_law_pot_here", "_law_program", "_law_many", "_law_rows_here"] (spIs C) := by
  refine okG F csLIs (spC_len fun ds h => by obtain ⟨n, rows, rfl, _⟩ := h; rfl) (fun cdv A outer s H vs_ Q E gd hr h => ⟨_, (pss_cons (ps_set (i := 4) csLIs.nd rfl (Or.inl rfl) (pe_lst (pa_cons (pe_pr DP_unk hr (pv 1)) (pa_cons (pe_callB (cr_lenO M_len.F (hr.mono (by decide)) M_len.b M_len.m.at_ M_len.m.fn (E := E0)) (by rfl) T.len PySem.boot_len (pa_cons (pv 1) pa_nil)) pa_nil))))
      (pss_cons (ps_if (PW.pt (pw_or (pt_cmpR op_ne (pe_callB (cr_reprX (C := C) (k := 1) gd hr) (by rfl) T.repr (by decide +kernel) (pa_cons (pv 4) pa_nil)) (pe_callB (cr_reprX (C := C) (k := 1) gd hr) (by rfl) T.repr (by decide +kernel) (pa_cons (pe_lst (pa_cons (pv 2) (pa_cons (pe_callB call_len_seq (by rfl) T.len PySem.boot_len (pa_cons (pv 3) pa_nil)) pa_nil))) pa_nil)) (nomark _)) (pw_or1 (pt_cmpR op_ne (pe_callB (cr_reprX (C := C) (k := 1) gd hr) (by rfl) T.repr (by decide +kernel) (pa_cons (pe_mt0 M_rows hr (pv 1)) pa_nil)) (pe_dg LS gd hr (pa_cons (pv 3) pa_nil)) (nomark _))))) (pss_one (ps_ret pe_bl)) pss_nil)
      (pss_cons (ps_if (pt_cmpR op_ne (pe_callB (cr_reprG gd M_repr.F (hr.mono (by decide)) M_repr.b M_repr.m.at_ M_repr.m.fn (E := E0)) (by rfl) T.repr (by decide +kernel) (pa_cons (pv 1) pa_nil)) (pe_op op_add_str (pe_op op_add_str (pe_op op_add_str (pe_op op_add_str pe_str (pe_callB (cr_reprX (C := C) (k := 1) gd hr) (by rfl) T.repr (by decide +kernel) (pa_cons (pv 2) pa_nil))) pe_str) (pe_dg LS gd hr (pa_cons (pv 3) pa_nil))) pe_str) (nomark _)) (pss_one (ps_ret pe_bl)) pss_nil)
      (pss_cons (ps_if (PW.pt (pw_or (pt_cmpR op_ne (pe_callB (cr_reprX (C := C) (k := 1) gd hr) (by rfl) T.repr (by decide +kernel) (pa_cons (pe_lc (own := [("_law_place", 5)]) (g := gName 5) (tt := tYes) rfl csLIs.nd (pi_range1 (by rfl) T.range (pa_cons (pe_callB call_len_seq (by rfl) T.len PySem.boot_len (pa_cons (pv 3) pa_nil)) pa_nil)) (blkOk_by (N := NsLIs) (sc := defScope sLIs) (by decide +kernel)) (fun _ _ _ _ _ => pg_name (i := 5) csLIs.nd rfl (Or.inl rfl)) (fun _ _ _ _ _ => pts_nil) (fun _ _ _ _ _ => by exact (pe_ixO M_get.F (hr.mono (by decide)) M_get.b M_get.m.at_ fG M_get.m.fn (pv 1) (pv 5) (fun _ _ => rfl) (E := E0)))) pa_nil)) (pe_dg LS gd hr (pa_cons (pv 3) pa_nil)) (nomark _)) (pw_or1 (pt_cmpR (op_neQ (C := C) (k := 6) (j := 7) (hr.mono (by decide))) (pv 1) (pe_make MP.M MP.G (hr.mono (by decide)) (by rfl) T.mgProgram MP.b2 .nil pass0 (pa_cons (pv 2) (pa_cons (pv 3) pa_nil))) (nomark _))))) (pss_one (ps_ret pe_bl)) pss_nil)
      (pss_cons (ps_set (i := 6) csLIs.nd rfl (Or.inr rfl) (pe_lc (own := [("_law_k", 7)]) (g := gName 7) (tt := tYes) rfl csLIs.nd (pi_range1 (by rfl) T.range (pa_cons (pv 2) pa_nil)) (blkOk_by (N := NsLIs) (sc := defScope sLIs) (by decide +kernel)) (fun _ _ _ _ _ => pg_name (i := 7) csLIs.nd rfl (Or.inl rfl)) (fun _ _ _ _ _ => pts_nil) (fun _ _ _ _ _ => by exact (pe_df LN hr (pa_cons (pv 0) (pa_cons pe_int pa_nil))))))
      (pss_cons (ps_setLc (i := 8) (own := [("_law_weights", 9), ("_law_bound", 10)]) (g := gTup K 2 (gCons (gName 9) (gCons (gName 10) gNil))) (tt := tYes) rfl csLIs.nd rfl rfl (sw_true rfl rfl rfl (by decide +kernel)) (pi_list (pv 3)) (blkOk_by (N := NsLIs) (sc := defScope sLIs) (by decide +kernel)) (fun _ _ _ _ _ => pg_tup (by rfl) (pgs_cons (pg_name (i := 9) csLIs.nd rfl (.inl rfl)) (pgs_cons (pg_name (i := 10) csLIs.nd rfl (.inl rfl)) pgs_nil))) (fun _ _ _ _ _ => pts_nil) (fun _ _ _ _ _ => by exact (pe_df LDT hr (pa_cons (pv 9) (pa_cons (pv 6) pa_nil)))))
      (pss_cons (ps_set (i := 11) csLIs.nd rfl (Or.inl rfl) (pe_callB (cr_reprX (C := C) (k := 1) gd hr) (by rfl) T.repr (by decide +kernel) (pa_cons (pv 6) pa_nil)))
      (pss_cons (ps_for PassesOwn.never rfl (pi_list (pe_lst (pa_cons (pe_mt M_sums hr (pv 1) (pa_cons (pv 6) pa_nil)) (pa_cons (pe_methK (pv 1) M_sums.cl M_sums.m M_sums.F (hr.mono (by decide)) KB_sums pass0 (pe_callTy call_tuple_of (by rfl) T.tuple (by decide +kernel) (pa_cons (pv 6) pa_nil))) (pa_cons (pe_mt M_sums hr (pv 1) (pa_cons (pv 6) pa_nil)) pa_nil))))) (pg_name (i := 12) csLIs.nd rfl (Or.inl rfl)) (pss_cons (ps_if (PW.pt (pw_or (pt_not (pt_val (pe_callB call_isi (by rfl) T.isinstance (by decide +kernel) (pa_cons (pv 12) (pa_cons (pe_bltn (v := .ty "list") (by rfl) T.list (by decide +kernel) rfl) pa_nil))))) (pw_or1 (pt_cmpR (op_neD hr.units) (pe_lc (own := [("_law_one", 13)]) (g := gName 13) (tt := tYes) rfl csLIs.nd (pi_list (pv 12)) (blkOk_by (N := NsLIs) (sc := defScope sLIs) (by decide +kernel)) (fun _ _ _ _ _ => pg_name (i := 13) csLIs.nd rfl (Or.inl rfl)) (fun _ _ _ _ _ => pts_nil) (fun _ _ _ _ _ => by exact (pe_df LPR hr (pa_cons (pv 13) pa_nil)))) (pv 8) (nomark _))))) (pss_one (ps_ret pe_bl)) pss_nil)
      (pss_cons (ps_if (pt_not (pt_val (pe_callB (cr_all rfl) (by rfl) T.all (by decide +kernel) (pa_cons (pe_lc (own := [("_law_one", 13)]) (g := gName 13) (tt := tYes) rfl csLIs.nd (pi_list (pv 12)) (blkOk_by (N := NsLIs) (sc := defScope sLIs) (by decide +kernel)) (fun _ _ _ _ _ => pg_name (i := 13) csLIs.nd rfl (Or.inl rfl)) (fun _ _ _ _ _ => pts_nil) (fun _ _ _ _ _ => by exact (pe_callB (call_isiK K rfl) (by rfl) T.isinstance (by decide +kernel) (pa_cons (pv 13) (pa_cons (pe_glob (v := .ref (C 0).1) (by rfl) T.mgRatio rfl) pa_nil))))) pa_nil)))) (pss_one (ps_ret pe_bl)) pss_nil)
      (pss_one (ps_expr (pe_bm PySem.F.plainAttrs_list PySem.F.slot_list_append PySem.F.type_list_append mt_append (pv 12) (pa_cons pe_non pa_nil)))))))
      (pss_one (ps_ret (pe_cmpR op_eq (pe_callB (cr_reprX (C := C) (k := 1) gd hr) (by rfl) T.repr (by decide +kernel) (pa_cons (pv 6) pa_nil)) (pv 11) (nomark _)))))))))))), spC_run h fun p ds hp => ?_⟩)
  obtain ⟨n, rows, rfl, n1, n16, hl, hz⟩ := hp
  have hZ : RowsZ n rows := ⟨by omega, hz⟩
  have hv := vs_len rows
  have h0 : roC NsLIs [prog n (vs rows), .int (n : Int), .lst rows] = [some .pot, some (.val (prog n (vs rows))), some (.val (.int (n : Int))), some (.val (.lst rows)), none, none, none, none, none, none, none, none, none, none] := rfl
  rw [h0]
  have l1 : ((n : Nat) : Int).natAbs.log2 < 1920 := log1920 (n := 5) (by simp; omega) (by decide) (by decide)
  have l2 : ((rows.length : Nat) : Int).natAbs.log2 < 1920 := log1920 (n := 5) (by simp; omega) (by decide) (by decide)
  have sz := (vs_sz hZ).1.mono (show 12 ≤ 1900 by decide)
  have wf := (vs_sz hZ).2
  have m1 := len_i l1
  have m2 := rows_len sz (fun r hr => by rw [wf r hr]; exact n16) (by rw [hv]; omega)
  have t2 : (listText [iT (n : Int), iT (rows.length : Int)]).length ≤ sizeLine := big_line (Nat.le_trans (lst_le (c := 1921) (n := 2) (fun t ht => by
    simp at ht
    rcases ht with rfl | rfl
    · exact len_i l1
    · exact len_i l2) (by simp)) (by decide))
  refine ds_set <| de_lst <| w_cons <| c_unkP rfl rfl <| da_one <| c_lenP rfl rfl hv (by omega) ⟨by show 2 ≤ sizeLine; decide, ?_⟩
  refine ds_ifs <| dt_or <| dt_test <| w_op <| w_repr rfl <| w_var rfl ⟨_, .lst (.cons (.int l1) (.cons (.int l2) .nil)) t2, by simp [dep, depL], w_repr rfl <| de_lst <| w_cons <| w_var rfl <| da_one <| de_cb <| da_one <| w_var rfl <| ca_lenL ⟨by show 2 ≤ sizeLine; decide, _, .lst (.cons (.int l1) (.cons (.int l2) .nil)) t2, by simp [dep, depL], st_ne ⟨no2, fun _ => ?_⟩⟩⟩
  refine dt_test <| w_op <| w_repr rfl <| DN.de <| c_rws rfl (no_rws T) rfl (by omega) ⟨_, shr hZ n16 MR_, by have := dep_vs rows; omega, c_shownL rfl rfl hZ n16 <| st_ne ⟨no2, fun _ => ds_nexts ?_⟩⟩
  have c0 : (Str.ofString "Program(").length ≤ 8 := by decide +kernel
  have c1 : (Str.ofString ", ").length ≤ 2 := by decide +kernel
  have c2 : (Str.ofString ")").length ≤ 1 := by decide +kernel
  have g1 := ap_le (c := 1929) c0 m1 (by omega)
  have g2 := ap_le (c := 1931) g1 c1 (by omega)
  have g3 := ap_le (c := 4934374) g2 m2 (by omega)
  refine ds_ifs <| dt_test <| w_op <| c_reprP rfl rfl n16 (by omega) sz wf ?_
  refine w_op <| w_op <| w_op <| w_op <| w_str <| w_repr rfl <| w_var rfl ⟨_, .int l1, by simp [dep], od_cat (big_line (by show _ + (iT (n : Int)).length ≤ _; omega)) <| w_str <| od_cat (big_line (by show (Str.ofString "Program(" ++ iT (n : Int)).length + _ ≤ _; omega)) <| c_shownL rfl rfl hZ n16 <| od_cat (big_line (by show ((Str.ofString "Program(" ++ iT (n : Int)) ++ Str.ofString ", ").length + _ ≤ _; omega)) <| w_str <| od_cat (big_line (by show (((Str.ofString "Program(" ++ iT (n : Int)) ++ Str.ofString ", ") ++ rowsT (vs rows)).length + _ ≤ _; omega)) <| st_ne ⟨no2, fun _ => ds_nexts ?_⟩⟩
  refine ds_ifs <| dt_or <| dt_test <| w_op <| w_repr rfl <| DF.de <| df_map (l := false) (js := [5]) (rowAt (vs rows)) <| di_rng1 <| da_one <| de_cb <| da_one <| w_var rfl <| ca_lenL ⟨_, rfl, by omega, by omega, by rw [rngD_len]; omega, fun i d hd => ?_, ?_⟩
  · have il : i < rows.length := by have := (List.getElem?_eq_some_iff.mp hd).1; rw [rngD_len] at this; omega
    have e1 := rngD_get hd
    subst e1
    have hi : (vs rows)[i]? = some (vs rows)[i] := List.getElem?_eq_getElem (by rw [hv]; exact il)
    rw [show (0 + (i : Int)) = (i : Int) from by omega]
    refine ⟨_, dg_name, DN.de <| n_get rfl rfl rfl hi ?_⟩
    show trow _ = trow ((vs rows).getD (i : Int).toNat ([], 0))
    rw [show (i : Int).toNat = i from by omega, List.getD_eq_getElem?_getD, hi]
    rfl
  have e1 : (rngD 0 (rows.length : Int).toNat).map (rowAt (vs rows)) = (vs rows).map trow := by
    rw [show (rows.length : Int).toNat = (vs rows).length from by rw [hv]; omega]
    exact rowAt_all _
  rw [e1]
  refine ⟨_, shr hZ n16 MR_, by have := dep_vs rows; omega, c_shownL rfl rfl hZ n16 <| st_ne ⟨no2, fun _ => ?_⟩⟩
  refine dt_test <| w_op <| w_var rfl <| c_mkP T rfl <| dla_cons <| dl_val rfl <| dla_cons <| dl_val rfl <| dla_nil ⟨n, false, rows, rfl, ⟨n, false, rows, rfl, n1, n16, hl, fun d hd => (hz d hd).ok⟩, ?_⟩
  refine cn_Q (c := 1) (b := true) ⟨M_eq.f, M_eq.fd, _, _, M_eq.F, M_eq.b, M_eq.m.at_, M_eq.m.fn, ⟨n, vs rows, _, rfl, .inl ⟨n, _, rfl⟩⟩, fun d hd => ?_⟩ ne1 ne2 (by decide) ⟨_, rfl, no2, fun _ => ds_nexts ?_⟩
  · obtain ⟨n2, r2, y, e, hy⟩ := hd
    obtain ⟨e1, e2⟩ := List.cons.inj e
    have e3 := (List.cons.inj e2).1
    rcases hy with ⟨m, r3, rfl, rfl⟩ | ⟨hy, _⟩
    · have p1 := prog_inj (n := n) (m := n2) (r := vs rows) (s := r2) e1
      have p2 := prog_inj (n := n) (m := m) (r := vs rows) (s := r3) e3
      rw [← p1.1, ← p1.2, ← p2.1, ← p2.2]
      simp
    · exact absurd e3.symm (hy _ _)
  refine ds_set <| DF.de <| df_lc (l := false) (js := [7]) (fun _ i es => es.length = i ∧ ∀ d ∈ es, NmZ d) <| di_rng1 <| da_one <| w_var rfl ⟨(n : Int), rfl, by omega, by omega, ?_, ⟨rfl, nofun⟩, fun i d es hd hI _ => ⟨_, dg_name, dt_yes ⟨fun _ => ?_, fun z => nomatch z⟩⟩, fun us hI => ?_⟩
  · rw [rngD_len]; exact Nat.le_trans (by omega : (n : Int).toNat ≤ 16) (by decide)
  · exact c_num rfl rfl rfl (by decide) (by decide) fun e he => ⟨by rw [List.length_append, hI.1]; rfl, fun d hd => by
      rcases List.mem_append.mp hd with hd | hd
      · exact hI.2 d hd
      · cases List.mem_singleton.mp hd; exact he⟩
  have hu : us.length = n := by have := hI.1; rw [rngD_len] at this; omega
  have zu := hI.2
  refine ds_set <| DF.de <| df_map (l := false) (js := [9, 10]) (fun d => pr (dot (rv d).1 (us.map vl))) <| di_list <| w_var rfl ⟨_, rfl, by omega, fun i d hd => ?_, ?_⟩
  rotate_left
  rw [dues_eq]
  rotate_left
  · obtain ⟨ws, b, rfl, wl, hw, hb⟩ := (hz d (List.mem_of_getElem? hd)).ex
    exact ⟨_, dg_tup2, c_dot rfl rfl rfl hw zu (by omega) rfl⟩
  obtain ⟨ts, sh, tl, tz⟩ := shw_nums (own := OwnR (cxOf CX0 P w K mg base NsLIs (Str.ofString "_law_is") (defScope sLIs) f cdv A outer s H E).nox C 1) (fun r hr => own_rp hr MR_) zu
  have t3 : (listText ts).length ≤ sizeLine := big_line (Nat.le_trans (lst_le (c := 3851) (n := 16) tz (by omega)) (by decide))
  have dn : dep (.lst us) ≤ 1 := by rw [dep, dep_nums zu]; decide
  refine ds_set <| w_repr rfl <| w_var rfl ⟨_, .lst sh t3, by omega, ?_⟩
  have sl : (sumD (vs rows) us).length = rows.length := by unfold sumD; rw [List.length_map, hv]
  have one : ∀ d ∈ sumD (vs rows) us, ∃ r, d = rt r := fun d hd => by
    obtain ⟨x, _, rfl⟩ := List.mem_map.mp hd
    exact ⟨_, rfl⟩
  refine ds_forFs (fun _ ρ' => ρ' = [some .pot, some (.val (prog n (vs rows))), some (.val (.int (n : Int))), some (.val (.lst rows)), some (.val (.lst [.int (n : Int), .int (rows.length : Int)])), none, some (.val (.lst us)), none, some (.val (.lst ((dues rows us).map pr))), none, none, some (.val (.str (listText ts))), none, none]) <|
    dfs_cons <| df_dn <| dn_meth (c := 1) (des := []) (no_sums T) (fun _ => .nil) <| w_var rfl ⟨_, rfl, dla_cons <| dl_val rfl <| dla_nil <| sums_pre false hZ hl n16 hu zu <|
    dfs_cons <| df_dn <| dn_methK (c := 1) (no_sums T) <| w_var rfl ⟨_, rfl, dl_de <| de_cb <| da_one <| w_var rfl <| ca_tuple (.inl rfl) <| sums_pre true hZ hl n16 hu zu <|
    dfs_cons <| df_dn <| dn_meth (c := 1) (des := []) (no_sums T) (fun _ => .nil) <| w_var rfl ⟨_, rfl, dla_cons <| dl_val rfl <| dla_nil <| sums_pre false hZ hl n16 hu zu <| dfs_nil ⟨by show 3 ≤ sizeLine; decide, rfl, fun k ds ρ' hk hI => ?_, fun ρ' hI => ?_⟩⟩⟩⟩
  · have hd : ds = sumD (vs rows) us := by
      rcases k with _ | _ | _ | k <;> simp at hk <;> exact hk.symm
    subst hd
    subst hI
    refine ⟨vp_of rfl, (by decide : 12 < 14), ?_⟩
    refine ds_ifs <| dt_look (i := 12) (ds := sumD (vs rows) us) rfl <| dt_or <| dt_not <| dt_B <| w_isi (.ty _) <| w_var rfl ⟨nofun, true, kit_ty (by decide +kernel), true, rfl, no1, fun _ => dt_test <| w_op <| DF.de <| df_map (l := false) (js := [13]) (fun d => pr (vl d)) <| di_list <| w_var rfl ⟨_, rfl, by omega, fun i d hd => ?_, w_var rfl ?_⟩⟩
    · obtain ⟨r, rfl⟩ := one d (List.mem_of_getElem? hd)
      exact ⟨_, dg_name, c_pair rfl (.rt r) rfl rfl⟩
    rw [sums_eq]
    refine cn_same (.lst (pl_map pl_pr (dues rows us))) (pairs_shaped _) ⟨_, rfl, no2, fun _ => ds_nexts ?_⟩
    refine ds_ifs <| dt_look (i := 12) (ds := sumD (vs rows) us) rfl <| dt_not <| dt_B <| w_allB <| df_map (l := false) (js := [13]) (fun _ => .bl true) <| di_list <| w_var rfl ⟨_, rfl, by omega, fun i d hd => ?_, List.replicate rows.length true, ?_, ?_⟩
    · obtain ⟨r, rfl⟩ := one d (List.mem_of_getElem? hd)
      exact ⟨_, dg_name, w_isi (.own _) <| w_var rfl ⟨kc0 T (.rt r), true, T.kRR, rfl⟩⟩
    · rw [List.map_const', List.map_replicate, sl]
    · refine ⟨true, by rw [List.all_eq_true.mpr (fun x hx => by rw [(List.mem_replicate.mp hx).2]; rfl)], no1, fun _ => ds_nexts ?_⟩
      exact ds_app1 rfl (by omega) <| de_non.imp fun d e => by subst e; exact ⟨vp_of rfl, rfl⟩
  · subst hI
    exact ds_ret <| w_op <| w_repr rfl <| w_var rfl ⟨_, .lst sh t3, by omega, w_var rfl <| od_eq (b := true) (by simp [scD]) rfl⟩
end
end K13
namespace GX
open PySem L2
/-- o.m(k = e, l = f): the further parameters by their names, put in order by gV -/
def tMethK2 (C : Addr) (m : Str) (sp : Sp) (gV : List V → List V → List V) (E : XK) (ta : TE) (t : TA) : TE := fun σ H Q => ta σ H fun x H1 =>
  ∃ a dx fs, x = .ref a ∧ H1 a = some (.ins C dx fs) ∧ fs.lookup m = none ∧ t σ H1 fun vs H2 => vs.length = 2 ∧ sp (gV [x] vs) H2 Q E
section
variable {X : Cx} {k : Nat} {f C : Addr} {fd : FuncData} {ps : List Str} {sp : Sp} {E : XK} {o e1 e2 : Expr} {m nm1 nm2 : Str} {pos apos k1 k2 : Pos} {ta t1 t2 : TE} {g : List Value → List Value → List Value} {gV : List V → List V → List V}
theorem pe_methK2 {pl : Sem Bool} (he : PE X o ta) (c : Cls X.K C) (hm : Meth X.K C m f)
    (F : FnOk X.prog X.w X.K X.mg X.base CX0 k f fd ps sp) (hr : Room k X.A)
    (hb : KBn X.K fd ps 1 [nm1, nm2] g gV) (hx : Passes CX0 X E) (ha1 : PE X e1 t1) (ha2 : PE X e2 t2)
    (hall : (backToKw pos (keywordEach [⟨some nm1, e1, k1⟩, ⟨some nm2, e2, k2⟩] X.env)).all (·.1.isSome) = true := by rfl)
    (hks : (backToKw pos (keywordEach [⟨some nm1, e1, k1⟩, ⟨some nm2, e2, k2⟩] X.env)).filterMap (·.1) = [nm1, nm2] := by rfl)
    (hpl : ((backTo pos (starEach [] X.env)).any (·.1) || (backToKw pos (keywordEach [⟨some nm1, e1, k1⟩, ⟨some nm2, e2, k2⟩] X.env)).any (·.1.isNone)) = false := by rfl)
    (ht : eval (.Call (.Attribute o m apos) [] [⟨some nm1, e1, k1⟩, ⟨some nm2, e2, k2⟩] pos) X.env = (do
      let ov ← eval o X.env
      standAt apos.atName
      let (f, first) ← holding [ov] (getMethod ov m pl)
      callWith pos f first (backTo pos (starEach [] X.env)) (backToKw pos (keywordEach [⟨some nm1, e1, k1⟩, ⟨some nm2, e2, k2⟩] X.env))) := by rfl) :
    PE X (.Call (.Attribute o m apos) [] [⟨some nm1, e1, k1⟩, ⟨some nm2, e2, k2⟩] pos) (tMethK2 C m sp gV E ta (tCons t1 (tCons t2 tNil))) := by
  constructor
  intro pins s σ H Q I h
  refine PySem.W.methodCall_KW (pl := pl) (thn (he.run pins s σ H _ I h) fun u s1 z => ?_) ht
  obtain ⟨x, H1, I1, rx, a, dx, fs, ex, ea, l, q⟩ := z
  subst ex
  cases (show u = Value.ref a from rx)
  refine getmeth_ok I1 ea c hm l ?_
  refine PySem.W.callWith_KW0 (h₀ := X.base) I.ok.mod.kin hm.kp hall ?_ hpl
  refine thn ((pk_cons (nm := some nm1) (kpos := k1) ha1 (pk_cons (nm := some nm2) (kpos := k2) ha2 pk_nil)).run pos pins s1 σ H1 _ I1 q) fun ws s2 z => ?_
  obtain ⟨zs, H2, I2, rz, l1, q2⟩ := z
  refine ⟨I2.kIn, ?_⟩
  rw [hks]
  exact run_fnN (ks := [nm1, nm2]) (us := [.ref a]) (vs := [.ref a]) F hr hb hx I2 (va .nil) rz rfl l1 q2
end
end GX
namespace K13
open PySem L2 GX GD KM
open Evl (Ex)
section
variable {P : Program} {w : World} {K : PySem.W.Frag} {mg : Str → Option Value} {base : Heap} {C : CT} {A : Amb} {ρ : Ro} {te ta tb : TE} {tl : TA} {tu : TS} {N : Nd} {R : D → Prop}
/-- o.m(k = e) -/
theorem de_methK {c : Nat} {m : Str} {ta : TE} {pre : List D → Prop} {post : List D → D → Prop} {E : XK} (hm : m ∉ (A.C c).2)
    (h : DE A ρ ta fun x => ∃ es, x = .ins c es ∧ DL A ρ te fun d => pre [x, d] ∧ ∀ z, post [x, d] z → R z) : DE A ρ (tMethK (A.C c).1 m (spD A.C pre post) E ta (tCons te tNil)) R := fun G0 H0 σ G H Q e q => by
  refine h G0 H0 σ G H _ e fun x v G2 H2 hx hv s2 => ?_
  obtain ⟨es, rfl, hx⟩ := hx
  cases id hv with
  | ins h1 r _ =>
    refine ⟨_, _, _, rfl, s2.h _ _ h1, by rw [lookup_fsOf_out hm]; rfl, ?_⟩
    refine hx G0 H0 σ G2 H2 _ (e.step s2) fun d u G3 H3 hp r3 s3 => ⟨rfl, G3, _, s3.h, .cons (.of (hv.mono s3.g)) ((LoL.cons r3 .nil).mono mns_none (Ex.refl _)), hp.1, fun d v G4 H4 hd r4 s4 => ?_⟩
    exact q d v G4 H4 (hp.2 d hd) r4 ((s2.trans s3).trans (((e.step s2).step s3).pure s4))
/-- o.m(k = e, l = f), the names the other way about -/
def swV (us ws : List V) : List V := us ++ ws.reverse
theorem de_methK2 {c : Nat} {m : Str} {ta t1 t2 : TE} {pre : List D → Prop} {post : List D → D → Prop} {E : XK} (hm : m ∉ (A.C c).2)
    (h : DE A ρ ta fun x => ∃ es, x = .ins c es ∧ DLA A ρ (tCons t1 (tCons t2 tNil)) fun ds => ∃ d f, ds = [d, f] ∧ pre [x, f, d] ∧ ∀ z, post [x, f, d] z → R z) : DE A ρ (tMethK2 (A.C c).1 m (spD A.C pre post) swV E ta (tCons t1 (tCons t2 tNil))) R := fun G0 H0 σ G H Q e q => by
  refine h G0 H0 σ G H _ e fun x v G2 H2 hx hv s2 => ?_
  obtain ⟨es, rfl, hx⟩ := hx
  cases id hv with
  | ins h1 r _ =>
    refine ⟨_, _, _, rfl, s2.h _ _ h1, by rw [lookup_fsOf_out hm]; rfl, ?_⟩
    refine hx G0 H0 σ G2 H2 _ (e.step s2) fun ds us G3 H3 hp r3 s3 => ?_
    obtain ⟨d, f, rfl, hp, hq⟩ := hp
    cases r3 with
    | cons a1 r3 =>
      cases r3 with
      | cons a2 r3 =>
        cases r3
        refine ⟨rfl, G3, _, s3.h, .cons (.of (hv.mono s3.g)) ((LoL.cons a2 (LoL.cons a1 .nil)).mono mns_none (Ex.refl _)), hp, fun d v G4 H4 hd r4 s4 => ?_⟩
        exact q d v G4 H4 (hq d hd) r4 ((s2.trans s3).trans (((e.step s2).step s3).pure s4))
/-! ### _law_pick by its values, not by data -/
def spPickV : Sp := fun ws H Q _ => ∃ p G a vs, ws = [.ref p, .ref a] ∧ Has (some p) PotW G H ∧ H a = some (.lst vs) ∧ a ≠ p ∧ 0 < vs.length ∧ vs.length ≤ 100 ∧ ∀ v ∈ vs, ∀ G2 H2, Stp (some p) PotW G H G2 H2 → Q v H2
theorem ok_pickV (T : Txt K mg C) (LD : Df P w K mg base 1 "_law_draw" ["_law_pot_here", "_law_size"] (spDraw C)) {f : Addr} {fd : FuncData} (F : Fun K "_law_pick" "_law_pick" sLPick f fd) : FnOk P w K mg base CX0 2 f fd ["_law_pot_here", "_law_some"] spPickV := by
  refine F.ok csLPick (fun vs H Q E h => by obtain ⟨p, G, a, xs, rfl, _⟩ := h; rfl) (fun cdv A outer s H vs Q E hr h => ⟨_, (pss_one (ps_ret (pe_ix ix_seq (pv 1) (pe_df LD hr (pa_cons (pv 0) (pa_cons (pe_callB call_len_seq (by rfl) T.len PySem.boot_len (pa_cons (pv 1) pa_nil)) pa_nil))) (fun _ _ => rfl)))), ?_⟩)
  obtain ⟨p, G, a, xs, rfl, hh, ha, hap, n0, n1, k⟩ := h
  refine ⟨.ref a, rfl, .ref p, rfl, .ref a, rfl, ⟨a, xs, rfl, .inl (SqL.of ha), ⟨p, G, [.int (xs.length : Int)], [.int (xs.length : Int)], rfl, hh, .cons (.int _) .nil, ⟨_, rfl, by omega, by omega⟩, fun d v G2 H2 hd rv st => ?_⟩⟩⟩
  obtain ⟨n, i, e, rfl, i0, i1⟩ := hd
  cases e
  cases rv
  have hi : i.toNat < xs.length := by omega
  have hat : atI xs i = some xs[i.toNat] := at_of (j := i.toNat) (by omega) (List.getElem?_eq_getElem hi)
  exact .inl ⟨a, xs, i, _, rfl, rfl, SqL.of (st.k a _ ha (fun z => hap (Option.some.inj z))), hat, k _ (List.getElem_mem hi) G2 H2 st⟩
theorem _root_.GD.Here.ownV {G0 H0 G H : Hp} {σ : L2.St} {i : Nat} {a : Addr} {vs : List V} {ds : List D} (e : Here A G0 H0 ρ σ G H) (vp : Vp i ρ) (il : i < ρ.length) (n0 : H0 a = none) (ng : G a = none) (ha : H a = some (.lst vs)) (rl : RepL A.C G ds vs) :
    Here A G0 H0 (ρ.set i (some (.own ds))) (σ.set i (some (.ref a))) G H := by
  have f := e.env
  have key : ∀ {j : Nat} {s : Sl}, j ≠ i → (ρ.set i (some (Sl.own ds)))[j]? = some (some s) → ρ[j]? = some (some s) := fun m q => by
    rw [List.getElem?_set_ne (Ne.symm m)] at q; exact q
  have keyσ : ∀ {j : Nat}, j ≠ i → (σ.set i (some (.ref a)))[j]? = σ[j]? := fun m => List.getElem?_set_ne (Ne.symm m)
  have at_ : ∀ {s : Sl}, (ρ.set i (some (Sl.own ds)))[i]? = some (some s) → s = Sl.own ds := fun {s} q => by
    rw [List.getElem?_set_self il] at q; cases q; rfl
  have no : ∀ {j : Nat} {s : Sl}, (ρ.set i (some (Sl.own ds)))[j]? = some (some s) → (j = i ∧ s = Sl.own ds) ∨ (∃ d, s = .val d) ∨ s = .pot := fun {j s} q => by
    by_cases hj : j = i
    · subst hj; exact .inl ⟨rfl, at_ q⟩
    · exact .inr (vp j s hj (key hj q))
  refine ⟨e.st, ⟨by rw [List.length_set, List.length_set]; exact f.len, fun j d' q => ?_, fun j es q => ?_, fun j k b es fs q1 q2 _ _ => ?_, fun j d' q => ?_, fun j a' dx c es q => ?_, fun j q => ?_⟩, e.ent⟩
  · have hj : j ≠ i := fun z => by subst z; exact nomatch at_ q
    obtain ⟨w, h1, h2⟩ := f.val j d' (key hj q)
    exact ⟨w, (keyσ hj).trans h1, h2⟩
  · rcases no q with ⟨rfl, z⟩ | ⟨d, z⟩ | z
    · cases z
      exact ⟨a, vs, List.getElem?_set_self (by rw [f.len]; exact il), n0, ng, ha, rl⟩
    · cases z
    · cases z
  · rcases no q1 with ⟨rfl, _⟩ | ⟨d, z⟩ | z
    · rcases no q2 with ⟨rfl, _⟩ | ⟨d, z⟩ | z
      · rfl
      · cases z
      · cases z
    · cases z
    · cases z
  · rcases no q with ⟨rfl, z⟩ | ⟨d, z⟩ | z <;> cases z
  · rcases no q with ⟨rfl, z⟩ | ⟨d, z⟩ | z <;> cases z
  · have hj : j ≠ i := fun z => by subst z; exact nomatch at_ q
    obtain ⟨b, h1, h2⟩ := f.pot j (key hj q)
    exact ⟨b, h1, (keyσ hj).trans h2⟩
/-- x = _law_pick(pot, [a new list, data]): either the list, one's own; or the data -/
theorem ds_pick2 {i j : Nat} (hW : A.W = PotW) (hp : ρ[j]? = some (some Sl.pot)) (vp : Vp i ρ) (il : i < ρ.length) (h : DF A ρ ta fun us => DE A ρ tb fun y => DS A (ρ.set i (some (Sl.val y))) tu N ∧ DS A (ρ.set i (some (Sl.own us))) tu N) :
    DS A ρ (tSeq (tAsg (tCall spPickV [] E0 (tCons (tVar j) (tCons (tLst (tCons ta (tCons tb tNil))) tNil))) (gName i)) tu) N := fun G0 H0 σ G H E e k1 k2 k3 k4 => by
  obtain ⟨p, hP, hσ⟩ := e.env.pot j hp
  refine ⟨.ref p, hσ, ?_⟩
  refine h G0 H0 σ G H _ e fun us a vs G2 H2 hd na ng ha rl s2 => ?_
  have e2 := e.step s2
  refine hd G0 H0 σ G2 H2 _ e2 fun y v G3 H3 hy rv s3 => ⟨by show 2 ≤ sizeLine; decide, fun q nq => ?_⟩
  have e3 := e2.step s3
  have s4 := s3.has.grow (Ex.new (o := .lst [.ref a, v]) nq)
  have e4 := e3.step s4
  have aP : some a ≠ A.P := e.has.np na
  have a0 : H0 a = none := e.st.back (fun b z => let ⟨_, o, ho, _⟩ := e.st.p b z; ⟨o, ho⟩) a na
  have g3 : G3 a = none := s3.f a _ ng ha (fun _ z => nomatch z)
  have ha3 : H3 a = some (.lst vs) := s3.k a _ ha aP
  have ha4 : upd H3 q (.lst [.ref a, v]) a = some (.lst vs) := by rw [upd_ne (fun z => by rw [z, nq] at ha3; cases ha3)]; exact ha3
  have qp : q ≠ p := fun z => by
    obtain ⟨_, o, ho, _⟩ := s3.p p hP
    rw [← z, nq] at ho; cases ho
  have hh : Has (some p) PotW G3 (upd H3 q (.lst [.ref a, v])) := by rw [← hP, ← hW]; exact s4.has
  refine ⟨p, G3, q, [.ref a, v], rfl, hh, upd_same, qp, by simp, by simp, fun w hw G5 H5 s5 => ?_⟩
  have s5' : A.St G3 (upd H3 q (.lst [.ref a, v])) G5 H5 := by
    have := s5
    rw [← hP, ← hW] at this
    exact this
  have e5 := e4.step s5'
  have hx := (s2.trans s3).g.trans s5'.g
  simp at hw
  rcases hw with rfl | rfl
  · have e6 := e5.ownV vp il a0 (s5'.f a _ g3 ha4 (fun _ z => nomatch z)) (s5'.k a _ ha4 aP) (rl.mono (s3.g.trans s5'.g))
    exact hy.2 G0 H0 _ G5 H5 E e6 (fun ρ' σ' G' H' n z x => k1 ρ' σ' G' H' n z (hx.trans x)) k2 (fun ρ' σ' G' H' n z x => k3 ρ' σ' G' H' n z (hx.trans x)) (fun ρ' σ' G' H' n z x => k4 ρ' σ' G' H' n z (hx.trans x))
  · exact hy.1 G0 H0 _ G5 H5 E (e5.set i (rv.mono s5'.g)) (fun ρ' σ' G' H' n z x => k1 ρ' σ' G' H' n z (hx.trans x)) k2 (fun ρ' σ' G' H' n z x => k3 ρ' σ' G' H' n z (hx.trans x)) (fun ρ' σ' G' H' n z x => k4 ρ' σ' G' H' n z (hx.trans x))
end
end K13
namespace K13
open PySem L2 GX GD KM
open Evl (Ex)
section
variable {P : Program} {w : World} {K : PySem.W.Frag} {mg : Str → Option Value} {base : Heap} {C : CT} {A : Amb} {ρ : Ro} {te ta tb : TE} {tl : TA} {tu : TS} {N : Nd} {R : D → Prop}
theorem ds_ifs1 {tt : TT} {tv ts : TS} (h : DT A ρ tt fun b => b = true → DS A ρ (tSeq tv ts) N) (k : DS A ρ ts N) : DS A ρ (tSeq (tIfS tt tv tNext) ts) N := ds_ifs (h.imp fun b hb => ⟨hb, fun _ => ds_nexts k⟩)
theorem mem2 {a e : D} (h : e ∈ [a, a]) : e = a := by simpa using h
theorem no_wo (T : Txt K mg C) : ("without" : Str) ∉ (C 1).2 := by rw [T.fP]; decide +kernel
theorem no_wb (T : Txt K mg C) : ("with_bound" : Str) ∉ (C 1).2 := by rw [T.fP]; decide +kernel
theorem wo_end {n k : Nat} {rows : List (List Rat × Rat)} (hk : k < rows.length) (n1 : 1 ≤ n) (n16 : n ≤ 16) (hl : rows.length ≤ 24) (wf : WfP n rows) (r : R (prog n (rows.take k ++ rows.drop (k + 1)))) :
    (∃ (n' : Nat) (rows' : List (List Rat × Rat)) (i : Nat), [prog n rows, .int (k : Int)] = [prog n' rows', .int (i : Int)] ∧ i < rows'.length ∧ 1 ≤ n' ∧ n' ≤ 16 ∧ rows'.length ≤ 24 ∧ WfP n' rows') ∧
    ∀ d : D, (∃ (n' : Nat) (rows' : List (List Rat × Rat)) (i : Nat), [prog n rows, .int (k : Int)] = [prog n' rows', .int (i : Int)] ∧ d = prog n' (rows'.take i ++ rows'.drop (i + 1))) → R d := by
  refine ⟨⟨n, rows, k, rfl, hk, n1, n16, hl, wf⟩, fun d hd => ?_⟩
  obtain ⟨m, r2, i, e, rfl⟩ := hd
  obtain ⟨e1, e2⟩ := List.cons.inj e
  have e3 := (List.cons.inj e2).1
  injection e3 with e3
  have : k = i := by omega
  subst this
  rw [← (prog_inj e1).1, ← (prog_inj e1).2]
  exact r
theorem c_wo {i j n k : Nat} {rows : List (List Rat × Rat)} (T : Txt K mg C) (hA : A.C = C) (h1 : ρ[i]? = some (some (Sl.val (prog n rows)))) (h2 : ρ[j]? = some (some (Sl.val (.int (k : Int))))) (hk : k < rows.length) (n1 : 1 ≤ n) (n16 : n ≤ 16) (hl : rows.length ≤ 24) (wf : WfP n rows) (r : R (prog n (rows.take k ++ rows.drop (k + 1)))) :
    DE A ρ (tMeth (C 1).1 "without" (spWo C) [] E0 (tVar i) (tCons (tVar j) tNil)) R := by
  subst hA
  exact de_meth (des := []) (no_wo T) (fun _ => .nil) <| w_var h1 ⟨_, rfl, dla_cons <| dl_val h2 <| dla_nil (wo_end hk n1 n16 hl wf r)⟩
theorem c_woK {i j n k : Nat} {rows : List (List Rat × Rat)} (T : Txt K mg C) (hA : A.C = C) (h1 : ρ[i]? = some (some (Sl.val (prog n rows)))) (h2 : ρ[j]? = some (some (Sl.val (.int (k : Int))))) (hk : k < rows.length) (n1 : 1 ≤ n) (n16 : n ≤ 16) (hl : rows.length ≤ 24) (wf : WfP n rows) (r : R (prog n (rows.take k ++ rows.drop (k + 1)))) :
    DE A ρ (tMethK (C 1).1 "without" (spWo C) E0 (tVar i) (tCons (tVar j) tNil)) R := by
  subst hA
  exact de_methK (no_wo T) <| w_var h1 ⟨_, rfl, dl_val h2 (wo_end hk n1 n16 hl wf r)⟩
theorem wb_end {n k : Nat} {rows : List (List Rat × Rat)} {x : D} {q : List Rat × Rat} (hq : rows[k]? = some q) (hx : Nm x) (n1 : 1 ≤ n) (n16 : n ≤ 16) (hl : rows.length ≤ 24) (wf : WfP n rows) (r : R (prog n ((rows.take k ++ [(q.1, vl x)]) ++ rows.drop (k + 1)))) :
    (∃ (n' : Nat) (rows' : List (List Rat × Rat)) (i : Nat) (d : D), [prog n rows, .int (k : Int), x] = [prog n' rows', .int (i : Int), d] ∧ i < rows'.length ∧ Nm d ∧ 1 ≤ n' ∧ n' ≤ 16 ∧ rows'.length ≤ 24 ∧ WfP n' rows') ∧
    ∀ e : D, (∃ (n' : Nat) (rows' : List (List Rat × Rat)) (i : Nat) (d : D) (r : List Rat × Rat), [prog n rows, .int (k : Int), x] = [prog n' rows', .int (i : Int), d] ∧ rows'[i]? = some r ∧ e = prog n' ((rows'.take i ++ [(r.1, vl d)]) ++ rows'.drop (i + 1))) → R e := by
  refine ⟨⟨n, rows, k, x, rfl, (List.getElem?_eq_some_iff.mp hq).1, hx, n1, n16, hl, wf⟩, fun e he => ?_⟩
  obtain ⟨m, r2, i, d, s, e, hs, rfl⟩ := he
  obtain ⟨e1, e2⟩ := List.cons.inj e
  obtain ⟨e3, e4⟩ := List.cons.inj e2
  have e5 := (List.cons.inj e4).1
  injection e3 with e3
  have : k = i := by omega
  subst this
  subst e5
  rw [← (prog_inj e1).2, hq] at hs
  cases hs
  rw [← (prog_inj e1).1, ← (prog_inj e1).2]
  exact r
theorem c_wb {i j l n k : Nat} {rows : List (List Rat × Rat)} {x : D} {q : List Rat × Rat} (T : Txt K mg C) (hA : A.C = C) (h1 : ρ[i]? = some (some (Sl.val (prog n rows)))) (h2 : ρ[j]? = some (some (Sl.val (.int (k : Int))))) (h3 : ρ[l]? = some (some (Sl.val x))) (hq : rows[k]? = some q) (hx : Nm x) (n1 : 1 ≤ n) (n16 : n ≤ 16) (hl : rows.length ≤ 24) (wf : WfP n rows) (r : R (prog n ((rows.take k ++ [(q.1, vl x)]) ++ rows.drop (k + 1)))) :
    DE A ρ (tMeth (C 1).1 "with_bound" (spWb C) [] E0 (tVar i) (tCons (tVar j) (tCons (tVar l) tNil))) R := by
  subst hA
  exact de_meth (des := []) (no_wb T) (fun _ => .nil) <| w_var h1 ⟨_, rfl, dla_cons <| dl_val h2 <| dla_cons <| dl_val h3 <| dla_nil (wb_end hq hx n1 n16 hl wf r)⟩
theorem c_wbK {i j l n k : Nat} {rows : List (List Rat × Rat)} {x : D} {q : List Rat × Rat} (T : Txt K mg C) (hA : A.C = C) (h1 : ρ[i]? = some (some (Sl.val (prog n rows)))) (h2 : ρ[j]? = some (some (Sl.val (.int (k : Int))))) (h3 : ρ[l]? = some (some (Sl.val x))) (hq : rows[k]? = some q) (hx : Nm x) (n1 : 1 ≤ n) (n16 : n ≤ 16) (hl : rows.length ≤ 24) (wf : WfP n rows) (r : R (prog n ((rows.take k ++ [(q.1, vl x)]) ++ rows.drop (k + 1)))) :
    DE A ρ (tMethK2 (C 1).1 "with_bound" (spWb C) swV E0 (tVar i) (tCons (tVar l) (tCons (tVar j) tNil))) R := by
  subst hA
  exact de_methK2 (no_wb T) <| w_var h1 ⟨_, rfl, dla_cons <| dl_val h3 <| dla_cons <| dl_val h2 <| dla_nil ⟨_, _, rfl, wb_end hq hx n1 n16 hl wf r⟩⟩
abbrev sLChanged : Stmt := top 45
abbrev NsLChanged : List Str := ["_law_pot_here", "_law_program", "_law_many", "_law_rows_here", "_law_way", "_law_spot", "_law_number_here", "_law_told", "_law_row", "_law_k", "_law_passed", "_law_longer"]
theorem csLChanged : FnScope NsLChanged ["_law_pot_here", "_law_program", "_law_many", "_law_rows_here"] (defScope sLChanged) := ⟨rfl, rfl, rfl, by decide +kernel, rfl, by decide +kernel, by decide +kernel⟩

def postCh (ds : List D) (e : D) : Prop := ∃ n rows rows', ds = [prog n (vs rows), .int (n : Int), .lst rows] ∧ e = .tup [prog n (vs rows'), .lst rows'] ∧ rows'.length ≤ rows.length + 1 ∧ ∀ d ∈ rows', RowZ n d
def spCh (C : CT) : Sp := spC C PotW (fun ds => ∃ n rows, ds = [prog n (vs rows), .int (n : Int), .lst rows] ∧ 1 ≤ n ∧ n ≤ 16 ∧ rows.length < 24 ∧ ∀ d ∈ rows, RowZ n d) postCh
theorem ok_ch (T : Txt K mg C) (M_wo : Mt P w K mg base C 1 8 "without" ["self", "position"] (spWo C)) (M_wb : Mt P w K mg base C 1 8 "with_bound" ["self", "position", "number"] (spWb C)) (M_add : Mt P w K mg base C 1 8 "__add__" ["self", "other"] (spAddP C))
    (KB_wo : KBn K M_wo.fd ["self", "position"] 1 ["position"] (fun us ws => us ++ ws) (fun vs zs => vs ++ zs)) (KB_wb : KBn K M_wb.fd ["self", "position", "number"] 1 ["number", "position"] (fun us ws => us ++ ws.reverse) swV) (sfP : PySem.W.selfFirst K (C 1).1 = true)
    (LD : Df P w K mg base 1 "_law_draw" ["_law_pot_here", "_law_size"] (spDraw C)) (LP : Df P w K mg base 2 "_law_pick" ["_law_pot_here", "_law_some"] (spPick C)) (LPV : Df P w K mg base 2 "_law_pick" ["_law_pot_here", "_law_some"] spPickV) (LN : Df P w K mg base 4 "_law_number" ["_law_pot_here", "_law_most"] (spNum C))
    {f : Addr} {fd : FuncData} (F : Fun K "_law_changed" "_law_changed" sLChanged f fd) : FnOk P w K mg base CX0 10 f fd ["_law_pot_here", "_law_program", "_law_many", "_law_rows_here"] (spCh C) := by
  refine F.ok csLChanged (spC_len fun ds h => by obtain ⟨n, rows, rfl, _⟩ := h; rfl) (fun cdv A outer s H vs_ Q E hr h => ⟨_, (pss_cons (ps_par (i := 4) (j := 5) (by rfl) csLChanged.nd rfl rfl (by decide) rfl rfl (pa_cons (pe_df LD hr (pa_cons (pv 0) (pa_cons pe_int pa_nil))) (pa_cons (pe_df LD hr (pa_cons (pv 0) (pa_cons (pe_callB (call_max2 rfl) (by rfl) T.max (by decide +kernel) (pa_cons pe_int (pa_cons (pe_callB call_len_seq (by rfl) T.len PySem.boot_len (pa_cons (pv 3) pa_nil)) pa_nil))) pa_nil))) pa_nil)) (by rfl))
      (pss_cons (ps_if (PW.pt (pw_and (pt_cmpR op_eq (pv 4) pe_int (nomark _)) (pw_and1 (pt_cmpR (op_neN (C := C) hr) (pv 3) (pe_lst pa_nil) (nomark _))))) (pss_one (ps_ret (pe_tup (pa_cons (pe_df LP hr (pa_cons (pv 0) (pa_cons (pe_lst (pa_cons (pe_mt M_wo hr (pv 1) (pa_cons (pv 5) pa_nil)) (pa_cons (pe_methK (pv 1) M_wo.cl M_wo.m M_wo.F (hr.mono (by decide)) KB_wo pass0 (pv 5)) pa_nil))) pa_nil))) (pa_cons (pe_op op_cat (pe_slice sl_list (pv 3) po_none (po_some (pv 5))) (pe_slice sl_list (pv 3) (po_some (pe_op op_add (pv 5) pe_int)) po_none)) pa_nil))))) pss_nil)
      (pss_cons (ps_if (PW.pt (pw_and (pt_cmpR op_eq (pv 4) pe_int (nomark _)) (pw_and1 (pt_cmpR (op_neN (C := C) hr) (pv 3) (pe_lst pa_nil) (nomark _))))) (pss_cons (ps_set (i := 6) csLChanged.nd rfl (Or.inl rfl) (pe_df LN hr (pa_cons (pv 0) (pa_cons pe_int pa_nil))))
      (pss_cons (ps_set (i := 7) csLChanged.nd rfl (Or.inl rfl) (pe_lst (pa_cons (pe_mt M_wb hr (pv 1) (pa_cons (pv 5) (pa_cons (pv 6) pa_nil))) (pa_cons (pe_methK2 (pv 1) M_wb.cl M_wb.m M_wb.F (hr.mono (by decide)) KB_wb pass0 (pv 6) (pv 5)) pa_nil))))
      (pss_one (ps_ret (pe_tup (pa_cons (pe_df LP hr (pa_cons (pv 0) (pa_cons (pv 7) pa_nil))) (pa_cons (pe_op op_cat (pe_op op_cat (pe_slice sl_list (pv 3) po_none (po_some (pv 5))) (pe_lst (pa_cons (pe_tup (pa_cons (pe_ix ix_seq (pe_ix ix_seq (pv 3) (pv 5) (fun _ _ => rfl)) pe_int (fun _ _ => rfl)) (pa_cons (pv 6) pa_nil))) pa_nil))) (pe_slice sl_list (pv 3) (po_some (pe_op op_add (pv 5) pe_int)) po_none)) pa_nil))))))) pss_nil)
      (pss_cons (ps_set (i := 8) csLChanged.nd rfl (Or.inl rfl) (pe_tup (pa_cons (pe_lc (own := [("_law_k", 9)]) (g := gName 9) (tt := tYes) rfl csLChanged.nd (pi_range1 (by rfl) T.range (pa_cons (pv 2) pa_nil)) (blkOk_by (N := NsLChanged) (sc := defScope sLChanged) (by decide +kernel)) (fun _ _ _ _ _ => pg_name (i := 9) csLChanged.nd rfl (Or.inl rfl)) (fun _ _ _ _ _ => pts_nil) (fun _ _ _ _ _ => by exact (pe_df LN hr (pa_cons (pv 0) (pa_cons pe_int pa_nil))))) (pa_cons (pe_df LN hr (pa_cons (pv 0) (pa_cons pe_int pa_nil))) pa_nil))))
      (pss_cons (ps_set (i := 10) csLChanged.nd rfl (Or.inl rfl) (pe_df LPV hr (pa_cons (pv 0) (pa_cons (pe_lst (pa_cons (pe_callTy call_list_of (by rfl) T.list (by decide +kernel) (pa_cons (pe_ix ix_seq (pv 8) pe_int (fun _ _ => rfl)) pa_nil)) (pa_cons (pe_callTy call_tuple_of (by rfl) T.tuple (by decide +kernel) (pa_cons (pe_ix ix_seq (pv 8) pe_int (fun _ _ => rfl)) pa_nil)) pa_nil))) pa_nil))))
      (pss_cons (ps_set (i := 11) csLChanged.nd rfl (Or.inl rfl) (pe_op (op_ownT M_add.F (hr.mono (by decide)) M_add.b sfP M_add.m.at_ M_add.m.fn rfl (E := E0)) (pv 1) (pe_tup (pa_cons (pv 10) (pa_cons (pe_ix ix_seq (pv 8) pe_int (fun _ _ => rfl)) pa_nil)))))
      (pss_cons (ps_if (pt_val (pe_callB call_isi (by rfl) T.isinstance (by decide +kernel) (pa_cons (pv 10) (pa_cons (pe_bltn (v := .ty "list") (by rfl) T.list (by decide +kernel) rfl) pa_nil)))) (pss_one (ps_expr (pe_bm PySem.F.plainAttrs_list PySem.F.slot_list_append PySem.F.type_list_append mt_append (pv 10) (pa_cons pe_int pa_nil)))) pss_nil)
      (pss_one (ps_ret (pe_tup (pa_cons (pv 11) (pa_cons (pe_op op_cat (pv 3) (pe_lst (pa_cons (pv 8) pa_nil))) pa_nil)))))))))))), spC_run h fun p ds hp => ?_⟩)
  obtain ⟨n, rows, rfl, n1, n16, hl, hz⟩ := hp
  have hZ : RowsZ n rows := ⟨by omega, hz⟩
  have hv := vs_len rows
  have wf := (vs_sz hZ).2
  have h0 : roC NsLChanged [prog n (vs rows), .int (n : Int), .lst rows] = [some .pot, some (.val (prog n (vs rows))), some (.val (.int (n : Int))), some (.val (.lst rows)), none, none, none, none, none, none, none, none] := rfl
  rw [h0]
  refine ds_par <| w_cons <| c_draw (n := 0) rfl rfl rfl <| w_int ⟨3, rfl, by decide, by decide, fun way _ _ => da_one <| c_draw (n := 0) rfl rfl rfl <| de_cb <| w_cons <| w_int <| da_one <| de_cb <| da_one <| w_var rfl <| ca_lenL <| ca_max2 ⟨_, rfl, by split <;> omega, by split <;> omega, fun spot s0 s1 => ⟨_, _, rfl, ?_⟩⟩⟩
  obtain ⟨k, rfl⟩ : ∃ k : Nat, spot = (k : Int) := ⟨spot.toNat, by omega⟩
  have kl : rows.length ≠ 0 → k < rows.length := fun h => by split at s1 <;> omega
  have two : 2 ≤ sizeLine := by decide
  refine ds_ifs1 (dt_and <| dt_test <| w_op <| w_var rfl <| w_int <| od_eq rfl ⟨_, rfl, ⟨fun _ => no2, fun _ => dt_test <| w_op <| w_var rfl <| de_lst <| da_nil ⟨Nat.zero_le _, cn_N ⟨_, rfl, fun hne => ?_⟩⟩⟩⟩) ?_
  · have hk := kl (by simpa using hne)
    have hk2 : k < (vs rows).length := by omega
    refine ds_rets <| de_tup <| w_cons <| c_pick rfl rfl rfl <| de_lst <| w_cons <| c_wo T rfl rfl rfl hk2 n1 n16 (by omega) wf <| da_one <| c_woK T rfl rfl rfl hk2 n1 n16 (by omega) wf ⟨two, _, rfl, by simp, by simp, fun e he => ?_⟩
    obtain rfl := mem2 he
    refine da_one <| w_op <| w_slL <| w_var rfl ⟨_, rfl, do_none <| do_some <| w_var rfl ⟨_, rfl, w_slL <| w_var rfl ⟨_, rfl, do_some <| w_op <| w_var rfl <| w_int <| oi_I0 (k := (· + ·)) rfl ⟨((k + 1 : Nat) : Int), by simp, do_none ?_⟩⟩⟩⟩
    rw [cut_to (by omega), cut_from (by omega)]
    refine oc_lst (big_line (by simp; omega)) ⟨two, n, rows, rows.take k ++ rows.drop (k + 1), rfl, ?_, by simp; omega, fun d hd => ?_⟩
    · unfold vs
      rw [List.map_append, List.map_take, List.map_drop]
    · rcases List.mem_append.mp hd with hd | hd
      · exact hz d (List.mem_of_mem_take hd)
      · exact hz d (List.mem_of_mem_drop hd)
  refine ds_ifs1 (dt_and <| dt_test <| w_op <| w_var rfl <| w_int <| od_eq rfl ⟨_, rfl, ⟨fun _ => no2, fun _ => dt_test <| w_op <| w_var rfl <| de_lst <| da_nil ⟨Nat.zero_le _, cn_N ⟨_, rfl, fun hne => ?_⟩⟩⟩⟩) ?_
  · have hk := kl (by simpa using hne)
    have hrk : rows[k]? = some rows[k] := List.getElem?_eq_getElem hk
    obtain ⟨ws, b, hr, wl, hw, hb⟩ := (hz rows[k] (List.getElem_mem hk)).ex
    rw [hr] at hrk
    have hq : (vs rows)[k]? = some (ws.map vl, vl b) := by unfold vs; rw [List.getElem?_map, hrk]; rfl
    refine ds_set <| c_num rfl rfl rfl (by decide) (by decide) fun d hd => ?_
    refine ds_set <| de_lst <| w_cons <| c_wb T rfl rfl rfl rfl hq hd.1 n1 n16 (by omega) wf <| da_one <| c_wbK T rfl rfl rfl rfl hq hd.1 n1 n16 (by omega) wf ⟨two, ?_⟩
    refine ds_rets <| de_tup <| w_cons <| c_pick rfl rfl rfl <| w_var rfl ⟨_, rfl, by simp, by simp, fun e he => ?_⟩
    obtain rfl := mem2 he
    refine da_one <| w_op <| w_op <| w_slL <| w_var rfl ⟨_, rfl, do_none <| do_some <| w_var rfl ⟨_, rfl, ?_⟩⟩
    rw [cut_to (by omega)]
    refine de_lst <| da_one <| de_tup <| w_cons <| w_op <| w_op <| w_var rfl <| w_var rfl <| ox_lst (ixN_of hk) hrk <| w_int <| ox_tup (j := 0) rfl rfl <| da_one <| w_var rfl ⟨two, by show 1 ≤ sizeLine; decide, oc_lst (big_line (by simp; omega)) <| w_slL <| w_var rfl ⟨_, rfl, do_some <| w_op <| w_var rfl <| w_int <| oi_I0 (k := (· + ·)) rfl ⟨((k + 1 : Nat) : Int), by simp, do_none ?_⟩⟩⟩
    rw [cut_from (by omega)]
    refine oc_lst (big_line (by simp; omega)) ⟨two, n, rows, (rows.take k ++ [.tup [.lst ws, d]]) ++ rows.drop (k + 1), rfl, ?_, by simp; omega, fun x hx => ?_⟩
    · unfold vs
      rw [List.map_append, List.map_append, List.map_take, List.map_drop]
      rfl
    · rcases List.mem_append.mp hx with hx | hx
      · rcases List.mem_append.mp hx with hx | hx
        · exact hz x (List.mem_of_mem_take hx)
        · cases List.mem_singleton.mp hx
          exact ⟨ws, d, rfl, wl, hw, hd⟩
      · exact hz x (List.mem_of_mem_drop hx)
  refine ds_set <| de_tup <| w_cons <| DF.de <| df_lc (l := false) (js := [9]) (fun _ i es => es.length = i ∧ ∀ d ∈ es, NmZ d) <| di_rng1 <| da_one <| w_var rfl ⟨(n : Int), rfl, by omega, by omega, ?_, ⟨rfl, nofun⟩, fun i d es hd hI _ => ⟨_, dg_name, dt_yes ⟨fun _ => ?_, fun z => nomatch z⟩⟩, fun ws hI => ?_⟩
  · rw [rngD_len]; exact Nat.le_trans (by omega : (n : Int).toNat ≤ 16) (by decide)
  · exact c_num rfl rfl rfl (by decide) (by decide) fun e he => ⟨by rw [List.length_append, hI.1]; rfl, fun d hd => by
      rcases List.mem_append.mp hd with hd | hd
      · exact hI.2 d hd
      · cases List.mem_singleton.mp hd; exact he⟩
  have wl : ws.length = n := by have := hI.1; rw [rngD_len] at this; omega
  have hw := hI.2
  refine da_one <| c_num rfl rfl rfl (by decide) (by decide) fun b hb => ⟨two, ?_⟩
  have lf : ∀ d ∈ ws, leaf d = true := fun d hd => (hw d hd).1.leaf
  have hrow : RowZ n (.tup [.lst ws, b]) := ⟨ws, b, rfl, wl, hw, hb⟩
  have hvr : vs (rows ++ [.tup [.lst ws, b]]) = vs rows ++ [(ws.map vl, vl b)] := by unfold vs; rw [List.map_append]; rfl
  have post : postCh [prog n (vs rows), .int (n : Int), .lst rows] (.tup [prog n (vs rows ++ [(ws.map vl, vl b)]), .lst (rows ++ [.tup [.lst ws, b]])]) := by
    refine ⟨n, rows, rows ++ [.tup [.lst ws, b]], rfl, by rw [hvr], by simp, fun x hx => ?_⟩
    rcases List.mem_append.mp hx with hx | hx
    · exact hz x hx
    · cases List.mem_singleton.mp hx; exact hrow
  have addp : ∀ (t : Bool) {S : D → Prop}, S (prog n (vs rows ++ [(ws.map vl, vl b)])) → (∃ (n' : Nat) (rows' : List (List Rat × Rat)) (d : D), [prog n (vs rows), .tup [seqD t ws, b]] = [prog n' rows', d] ∧ RowOk n' d ∧ 1 ≤ n' ∧ n' ≤ 16 ∧ rows'.length < 24 ∧ WfP n' rows') ∧
      ∀ e : D, (∃ (n' : Nat) (rows' : List (List Rat × Rat)) (d : D), [prog n (vs rows), .tup [seqD t ws, b]] = [prog n' rows', d] ∧ e = prog n' (rows' ++ [rv d])) → leaf e = true ∧ S e := fun t S r => by
    refine ⟨⟨n, vs rows, _, rfl, ⟨t, ws, b, rfl, wl, fun w h => (hw w h).1, hb.1⟩, n1, n16, by omega, wf⟩, fun e he => ?_⟩
    obtain ⟨m, r2, d, e, rfl⟩ := he
    obtain ⟨e1, e2⟩ := List.cons.inj e
    have e3 := (List.cons.inj e2).1
    subst e3
    rw [← (prog_inj e1).1, ← (prog_inj e1).2, rv_seq]
    exact ⟨rfl, r⟩
  have ret : ∀ (s10 : Option Sl) (s6 s7 s9 : Option Sl), DS ⟨C, PotW, some p⟩ [some .pot, some (.val (prog n (vs rows))), some (.val (.int (n : Int))), some (.val (.lst rows)), some (.val (.int way)), some (.val (.int (k : Int))), s6, s7, some (.val (.tup [.lst ws, b])), s9, s10, some (.val (prog n (vs rows ++ [(ws.map vl, vl b)])))] (tRet (tTup (tCons (tVar 11) (tCons (tOp rCat (tVar 3) (tLst (tCons (tVar 8) tNil))) tNil)))) { nx := fun _ => postCh [prog n (vs rows), .int (n : Int), .lst rows] .non, rt := postCh [prog n (vs rows), .int (n : Int), .lst rows] } := fun s10 s6 s7 s9 =>
    ds_ret <| de_tup <| w_cons <| w_var rfl <| da_one <| w_op <| w_var rfl <| de_lst <| da_one <| w_var rfl ⟨by show 1 ≤ sizeLine; decide, oc_lst (big_line (by simp; omega)) ⟨two, post⟩⟩
  refine ds_pick2 rfl rfl (vp_of rfl) (by decide : 10 < 12) (f_list <| dl_de <| w_op <| w_var rfl <| w_int <| ox_tup (j := 0) rfl rfl ⟨false, ws, rfl, lf, de_cb <| da_one <| w_op <| w_var rfl <| w_int <| ox_tup (j := 0) rfl rfl <| ca_tuple (.inl rfl) ⟨?_, ?_⟩⟩)
  · refine ds_set <| de_dl <| dl_op <| dl_val rfl <| dl_tup <| dla_cons <| dl_val rfl <| dla_cons <| dl_de <| w_op <| w_var rfl <| w_int <| ox_tup (j := 1) rfl rfl <| dla_nil ⟨two, (fun q => ol_ownT (c := 1) (addp true (S := fun _ => True) trivial).1 (addp true q).2) ?_⟩
    exact ds_ifs <| dt_B <| w_isi (.ty _) <| w_var rfl ⟨nofun, false, kit_ty (by decide +kernel), false, rfl, no2, fun _ => ds_nexts (ret _ _ _ _)⟩
  · refine ds_set <| de_dl <| dl_op <| dl_val rfl <| dl_tup <| dla_cons <| dl_own (i := 10) (ds := ws) rfl <| dla_cons <| dl_de <| w_op <| w_var rfl <| w_int <| ox_tup (j := 1) rfl rfl <| dla_nil ⟨two, (fun q => ol_ownT (c := 1) (addp false (S := fun _ => True) trivial).1 (addp false q).2) ?_⟩
    refine ds_ifs <| dt_look (i := 10) (ds := ws) rfl <| dt_B <| w_isi (.ty _) <| w_var rfl ⟨nofun, true, kit_ty (by decide +kernel), true, rfl, fun _ => ?_, no3⟩
    exact ds_app rfl (by omega) <| w_int (ret _ _ _ _)
end
end K13
namespace K13
open PySem L2 GX GD KM
open Evl (Ex)
section
variable {P : Program} {w : World} {K : PySem.W.Frag} {mg : Str → Option Value} {base : Heap} {C : CT} {A : Amb} {ρ : Ro} {te ta tb tc td : TE} {tl : TA} {tu : TS} {N : Nd} {R : D → Prop}
abbrev sLRight : Stmt := top 46
abbrev NsLRight : List Str := ["_law_pot_here", "_law_many", "_law_rows_here", "_law_past", "_law_here", "_law_turn", "_law_great", "_law_k", "_law_program", "_law_some"]
theorem csLRight : FnScope NsLRight ["_law_pot_here"] (defScope sLRight) := ⟨rfl, rfl, rfl, by decide +kernel, rfl, by decide +kernel, by decide +kernel⟩

/-- x, y = [..], e: the first one a list of one's own -/
theorem ds_parO {i j : Nat} (vp : Vp i ρ) (il : i < ρ.length) (h : DF A ρ ta fun ds => DE A ρ tb fun y => DS A ((ρ.set i (some (Sl.own ds))).set j (some (Sl.val y))) tu N) : DS A ρ (tSeq (tPar i j (tCons ta (tCons tb tNil))) tu) N := fun G0 H0 σ G H E e k1 k2 k3 k4 => by
  refine h G0 H0 σ G H _ e fun ds a vs G2 H2 hd na ng ha rl s2 => ?_
  have e2 := e.step s2
  refine hd G0 H0 σ G2 H2 _ e2 fun y v G3 H3 hy rv s3 => ⟨_, _, rfl, ?_⟩
  have aP : some a ≠ A.P := e.has.np na
  have a0 : H0 a = none := e.st.back (fun b z => let ⟨_, o, ho, _⟩ := e.st.p b z; ⟨o, ho⟩) a na
  have e3 := ((e2.step s3).ownV vp il a0 (s3.f a _ ng ha (fun _ z => nomatch z)) (s3.k a _ ha aP) (rl.mono s3.g)).set j rv
  have hx := s2.g.trans s3.g
  exact hy G0 H0 _ G3 H3 E e3 (fun ρ' σ' G' H' n z x => k1 ρ' σ' G' H' n z (hx.trans x)) k2 (fun ρ' σ' G' H' n z x => k3 ρ' σ' G' H' n z (hx.trans x)) (fun ρ' σ' G' H' n z x => k4 ρ' σ' G' H' n z (hx.trans x))
def spPa (C : CT) : Sp := spC C PotW (fun ds => ∃ (n : Nat) (rows : List D), ds = [.int (n : Int), .lst rows] ∧ 1 ≤ n ∧ n ≤ 4 ∧ rows.length ≤ 8 ∧ ∀ d ∈ rows, RowZ n d) fun ds e => e = .bl true
theorem c_is {i : Nat} {n : Nat} {rows : List D} (hA : A.C = C) (hW : A.W = PotW) (hi : ρ[i]? = some (some Sl.pot)) (n1 : 1 ≤ n) (n16 : n ≤ 16) (hl : rows.length ≤ 24) (hz : ∀ d ∈ rows, RowZ n d) (r : R (.bl true))
    (h : DA A ρ tl fun ds => ds = [prog n (vs rows), .int (n : Int), .lst rows]) : DE A ρ (tCall (spIs C) [] E0 (tCons (tVar i) tl)) R := by
  subst hA
  have e : spIs A.C = spC A.C A.W (fun ds => ∃ n rows, ds = [prog n (vs rows), .int (n : Int), .lst rows] ∧ 1 ≤ n ∧ n ≤ 16 ∧ rows.length ≤ 24 ∧ ∀ d ∈ rows, RowZ n d) fun ds e => e = .bl true := by rw [hW]; rfl
  rw [e]
  refine de_callC hi <| h.imp fun ds hd => ?_
  subst hd
  exact ⟨⟨n, rows, rfl, n1, n16, hl, hz⟩, fun d hd => by subst hd; exact r⟩
theorem c_pa {i : Nat} {n : Nat} {rows : List D} (hA : A.C = C) (hW : A.W = PotW) (hi : ρ[i]? = some (some Sl.pot)) (n1 : 1 ≤ n) (n4 : n ≤ 4) (hl : rows.length ≤ 8) (hz : ∀ d ∈ rows, RowZ n d) (r : R (.bl true))
    (h : DA A ρ tl fun ds => ds = [.int (n : Int), .lst rows]) : DE A ρ (tCall (spPa C) [] E0 (tCons (tVar i) tl)) R := by
  subst hA
  have e : spPa A.C = spC A.C A.W (fun ds => ∃ (n : Nat) (rows : List D), ds = [.int (n : Int), .lst rows] ∧ 1 ≤ n ∧ n ≤ 4 ∧ rows.length ≤ 8 ∧ ∀ d ∈ rows, RowZ n d) fun ds e => e = .bl true := by rw [hW]; rfl
  rw [e]
  refine de_callC hi <| h.imp fun ds hd => ?_
  subst hd
  exact ⟨⟨n, rows, rfl, n1, n4, hl, hz⟩, fun d hd => by subst hd; exact r⟩
theorem c_rowsL {i j n : Nat} {m : Int} (hA : A.C = C) (hW : A.W = PotW) (hi : ρ[i]? = some (some Sl.pot)) (hj : ρ[j]? = some (some (Sl.val (.int (n : Int))))) (n1 : 1 ≤ n) (n16 : n ≤ 16) (m0 : 0 ≤ m) (m1 : m ≤ 20)
    (r : ∀ rows : List D, (rows.length : Int) ≤ m + 1 → (∀ d ∈ rows, RowZ n d) → R (.lst rows)) : DE A ρ (tCall (spRowsL C) [] E0 (tCons (tVar i) (tCons (tVar j) (tCons (tC (.int m)) tNil)))) R := by
  subst hA
  have e : spRowsL A.C = spC A.C A.W (fun ds => ∃ (n : Nat) (m : Int), ds = [.int (n : Int), .int m] ∧ 1 ≤ n ∧ n ≤ 16 ∧ 0 ≤ m ∧ m ≤ 20) fun ds e => ∃ (n : Nat) (m : Int) (rows : List D), ds = [.int (n : Int), .int m] ∧ e = .lst rows ∧ (rows.length : Int) ≤ m + 1 ∧ ∀ d ∈ rows, RowZ n d := by rw [hW]; rfl
  rw [e]
  refine de_callC hi <| w_cons <| w_var hj <| da_one <| w_int ⟨⟨n, m, rfl, n1, n16, m0, m1⟩, fun d hd => ?_⟩
  obtain ⟨n2, m2, rows, e, rfl, h1, h2⟩ := hd
  obtain ⟨e1, e2⟩ := List.cons.inj e
  have e3 := (List.cons.inj e2).1
  injection e1 with e1
  injection e3 with e3
  have : n = n2 := by omega
  subst this
  subst e3
  exact r rows h1 h2
theorem c_ch {i : Nat} {n : Nat} {rows : List D} (hA : A.C = C) (hW : A.W = PotW) (hi : ρ[i]? = some (some Sl.pot)) (n1 : 1 ≤ n) (n16 : n ≤ 16) (hl : rows.length < 24) (hz : ∀ d ∈ rows, RowZ n d)
    (r : ∀ rows' : List D, rows'.length ≤ rows.length + 1 → (∀ d ∈ rows', RowZ n d) → R (.tup [prog n (vs rows'), .lst rows']))
    (h : DA A ρ tl fun ds => ds = [prog n (vs rows), .int (n : Int), .lst rows]) : DE A ρ (tCall (spCh C) [] E0 (tCons (tVar i) tl)) R := by
  subst hA
  have e : spCh A.C = spC A.C A.W (fun ds => ∃ n rows, ds = [prog n (vs rows), .int (n : Int), .lst rows] ∧ 1 ≤ n ∧ n ≤ 16 ∧ rows.length < 24 ∧ ∀ d ∈ rows, RowZ n d) postCh := by rw [hW]; rfl
  rw [e]
  refine de_callC hi <| h.imp fun ds hd => ?_
  subst hd
  refine ⟨⟨n, rows, rfl, n1, n16, hl, hz⟩, fun d hd => ?_⟩
  obtain ⟨n2, r2, r3, e, rfl, h1, h2⟩ := hd
  obtain ⟨_, e2⟩ := List.cons.inj e
  obtain ⟨e3, e4⟩ := List.cons.inj e2
  have e5 := (List.cons.inj e4).1
  injection e3 with e3
  injection e5 with e5
  have : n = n2 := by omega
  subst this
  subst e5
  exact r r3 h1 h2
/-- what stands in past -/
def PastZ (n : Nat) (d : D) : Prop := ∃ rows : List D, d = .tup [prog n (vs rows), .lst rows] ∧ rows.length ≤ 24 ∧ ∀ x ∈ rows, RowZ n x
/-- the great rows -/
def greatRow (d : D) : D := .tup [.lst (List.replicate 16 d), d]
def greatD : List D := (rngD 0 24).map greatRow
theorem great_len : greatD.length = 24 := by unfold greatD; rw [List.length_map, rngD_len]
theorem great_at {k : Nat} (h : k < 24) : greatD[k]? = some (greatRow (.int (k : Int))) := by
  unfold greatD
  rw [List.getElem?_map]
  have h2 : k < (rngD 0 24).length := by rw [rngD_len]; exact h
  rw [List.getElem?_eq_getElem h2, rngD_get (List.getElem?_eq_getElem h2)]
  show some (greatRow (.int (0 + (k : Int)))) = _
  rw [show (0 + (k : Int)) = (k : Int) from by omega]
theorem rowz_great {k : Int} (h : k.natAbs < 4096) {x : D} (hx : NmZ x) : RowZ 16 (.tup [.lst (List.replicate 16 (.int k)), x]) := ⟨_, _, rfl, by simp, fun w hw => by rw [(List.mem_replicate.mp hw).2]; exact nmz_int h, hx⟩
theorem great_rowz : ∀ d ∈ greatD, RowZ 16 d := fun d hd => by
  obtain ⟨k, hk⟩ := List.getElem?_of_mem hd
  have kl : k < 24 := by rw [← great_len]; exact (List.getElem?_eq_some_iff.mp hk).1
  rw [great_at kl] at hk
  cases hk
  exact rowz_great (by omega) (nmz_int (by omega))
def spRi (C : CT) : Sp := spC C PotW (fun ds => ds = []) fun ds e => e = .bl true
theorem ok_ri (T : Txt K mg C) (MP : MkP P w K mg base C) (M_wo : Mt P w K mg base C 1 8 "without" ["self", "position"] (spWo C)) (M_wb : Mt P w K mg base C 1 8 "with_bound" ["self", "position", "number"] (spWb C))
    (LD : Df P w K mg base 1 "_law_draw" ["_law_pot_here", "_law_size"] (spDraw C)) (LR : Df P w K mg base 5 "_law_rows" ["_law_pot_here", "_law_many", "_law_most"] (spRowsL C))
    (LPA : Dg P w K mg base 11 "_law_parts_right" ["_law_pot_here", "_law_many", "_law_rows_here"] (spPa C)) (LI : Dg P w K mg base 10 "_law_is" ["_law_pot_here", "_law_program", "_law_many", "_law_rows_here"] (spIs C)) (LC : Df P w K mg base 10 "_law_changed" ["_law_pot_here", "_law_program", "_law_many", "_law_rows_here"] (spCh C))
    {f : Addr} {fd : FuncData} (F : Fun K "_law_right" "_law_right" sLRight f fd) : FnG P w K mg base CX0 12 f fd ["_law_pot_here"] (spRi C) := by
  refine okG F csLRight (spC_len fun ds h => by subst h; rfl) (fun cdv A outer s H vs_ Q E gd hr h => ⟨_, (pss_cons (ps_set (i := 1) csLRight.nd rfl (Or.inr rfl) (pe_op op_add pe_int (pe_df LD hr (pa_cons (pv 0) (pa_cons pe_int pa_nil)))))
      (pss_cons (ps_set (i := 2) csLRight.nd rfl (Or.inl rfl) (pe_df LR hr (pa_cons (pv 0) (pa_cons (pv 1) (pa_cons pe_int pa_nil)))))
      (pss_cons (ps_if (pt_not (pt_val (pe_dg LPA gd hr (pa_cons (pv 0) (pa_cons (pv 1) (pa_cons (pv 2) pa_nil)))))) (pss_one (ps_ret pe_bl)) pss_nil)
      (pss_cons (ps_par (i := 3) (j := 4) (by rfl) csLRight.nd rfl rfl (by decide) rfl rfl (pa_cons (pe_lst pa_nil) (pa_cons (pe_tup (pa_cons (pe_make MP.M MP.G (hr.mono (by decide)) (by rfl) T.mgProgram MP.b2 .nil pass0 (pa_cons (pv 1) (pa_cons (pv 2) pa_nil))) (pa_cons (pv 2) pa_nil))) pa_nil)) (by rfl))
      (pss_cons (ps_for PassesOwn.never rfl (pi_range1 (by rfl) T.range (pa_cons (pe_df LD hr (pa_cons (pv 0) (pa_cons pe_int pa_nil))) pa_nil)) (pg_name (i := 5) csLRight.nd rfl (Or.inl rfl)) (pss_cons (ps_expr (pe_bm PySem.F.plainAttrs_list PySem.F.slot_list_append PySem.F.type_list_append mt_append (pv 3) (pa_cons (pe_tup (pa_cons (pe_ix ix_seq (pv 4) pe_int (fun _ _ => rfl)) (pa_cons (pe_callTy call_list_of (by rfl) T.list (by decide +kernel) (pa_cons (pe_ix ix_seq (pv 4) pe_int (fun _ _ => rfl)) pa_nil)) pa_nil))) pa_nil)))
      (pss_cons (ps_set (i := 4) csLRight.nd rfl (Or.inl rfl) (pe_df LC hr (pa_cons (pv 0) (pa_cons (pe_ix ix_seq (pv 4) pe_int (fun _ _ => rfl)) (pa_cons (pv 1) (pa_cons (pe_ix ix_seq (pv 4) pe_int (fun _ _ => rfl)) pa_nil))))))
      (pss_one (ps_if (pt_not (pt_val (pe_dg LI gd hr (pa_cons (pv 0) (pa_cons (pe_ix ix_seq (pv 4) pe_int (fun _ _ => rfl)) (pa_cons (pv 1) (pa_cons (pe_ix ix_seq (pv 4) pe_int (fun _ _ => rfl)) pa_nil))))))) (pss_one (ps_ret pe_bl)) pss_nil)))))
      (pss_cons (ps_setLc (i := 6) (own := [("_law_k", 7)]) (g := gName 7) (tt := tYes) rfl csLRight.nd rfl rfl (sw_true rfl rfl rfl (by decide +kernel)) (pi_range1 (by rfl) T.range (pa_cons pe_int pa_nil)) (blkOk_by (N := NsLRight) (sc := defScope sLRight) (by decide +kernel)) (fun _ _ _ _ _ => pg_name (i := 7) csLRight.nd rfl (Or.inl rfl)) (fun _ _ _ _ _ => pts_nil) (fun _ _ _ _ _ => by exact (pe_tup (pa_cons (pe_op op_rep (pe_lst (pa_cons (pv 7) pa_nil)) pe_int) (pa_cons (pv 7) pa_nil)))))
      (pss_cons (ps_if (pt_not (pt_val (pe_dg LI gd hr (pa_cons (pv 0) (pa_cons (pe_make MP.M MP.G (hr.mono (by decide)) (by rfl) T.mgProgram MP.b2 .nil pass0 (pa_cons pe_int (pa_cons (pv 6) pa_nil))) (pa_cons pe_int (pa_cons (pv 6) pa_nil))))))) (pss_one (ps_ret pe_bl)) pss_nil)
      (pss_cons (ps_if (pt_not (pt_val (pe_dg LI gd hr (pa_cons (pv 0) (pa_cons (pe_mt M_wb hr (pe_make MP.M MP.G (hr.mono (by decide)) (by rfl) T.mgProgram MP.b2 .nil pass0 (pa_cons pe_int (pa_cons (pv 6) pa_nil))) (pa_cons pe_int (pa_cons (pe_un un_neg pe_int) pa_nil))) (pa_cons pe_int (pa_cons (pe_op op_cat (pe_slice sl_list (pv 6) po_none (po_some pe_int)) (pe_lst (pa_cons (pe_tup (pa_cons (pe_ix ix_seq (pe_ix ix_seq (pv 6) pe_int (fun _ _ => rfl)) pe_int (fun _ _ => rfl)) (pa_cons (pe_un un_neg pe_int) pa_nil))) pa_nil))) pa_nil))))))) (pss_one (ps_ret pe_bl)) pss_nil)
      (pss_cons (ps_if (pt_not (pt_val (pe_dg LI gd hr (pa_cons (pv 0) (pa_cons (pe_mt M_wo hr (pe_make MP.M MP.G (hr.mono (by decide)) (by rfl) T.mgProgram MP.b2 .nil pass0 (pa_cons pe_int (pa_cons (pv 6) pa_nil))) (pa_cons pe_int pa_nil)) (pa_cons pe_int (pa_cons (pe_slice sl_list (pv 6) (po_some pe_int) po_none) pa_nil))))))) (pss_one (ps_ret pe_bl)) pss_nil)
      (pss_one (ps_ret (pe_callB (cr_all rfl) (by rfl) T.all (by decide +kernel) (pa_cons (pe_lc (own := [("_law_program", 8), ("_law_some", 9)]) (g := gTup K 2 (gCons (gName 8) (gCons (gName 9) gNil))) (tt := tYes) rfl csLRight.nd (pi_list (pv 3)) (blkOk_by (N := NsLRight) (sc := defScope sLRight) (by decide +kernel)) (fun _ _ _ _ _ => pg_tup (by rfl) (pgs_cons (pg_name (i := 8) csLRight.nd rfl (.inl rfl)) (pgs_cons (pg_name (i := 9) csLRight.nd rfl (.inl rfl)) pgs_nil))) (fun _ _ _ _ _ => pts_nil) (fun _ _ _ _ _ => by exact (pe_dg LI gd hr (pa_cons (pv 0) (pa_cons (pv 8) (pa_cons (pv 1) (pa_cons (pv 9) pa_nil))))))) pa_nil))))))))))))), spC_run h fun p ds hp => ?_⟩)
  subst hp
  have h0 : roC NsLRight [] = [some .pot, none, none, none, none, none, none, none, none, none] := rfl
  rw [h0]
  have two : 2 ≤ sizeLine := by decide
  refine ds_set <| w_op <| w_int <| c_draw (n := 0) rfl rfl rfl <| w_int ⟨4, rfl, by decide, by decide, fun d d0 d1 => oi_I0 (k := (· + ·)) rfl ?_⟩
  obtain ⟨n, hn⟩ : ∃ n : Nat, 1 + d = (n : Int) := ⟨(1 + d).toNat, by omega⟩
  have n1 : 1 ≤ n := by omega
  have n4 : n ≤ 4 := by omega
  rw [hn]
  refine ds_set <| c_rowsL rfl rfl rfl rfl n1 (by omega) (by decide) (by decide) fun rows rl hz => ?_
  have rl8 : rows.length ≤ 8 := by omega
  refine ds_ifs <| dt_not <| dt_B <| c_pa rfl rfl rfl n1 n4 rl8 hz ⟨true, rfl, no1, fun _ => ds_nexts ?_⟩ (w_cons <| w_var rfl <| da_one <| w_var rfl rfl)
  refine ds_parO (vp_of rfl) (by decide : 3 < 10) (df_lst <| da_nil ⟨Nat.zero_le _, de_tup <| w_cons <| c_mkP T rfl <| dla_cons <| dl_val rfl <| dla_cons <| dl_val rfl <| dla_nil ⟨n, false, rows, rfl, ⟨n, false, rows, rfl, n1, by omega, by omega, fun d hd => (hz d hd).ok⟩, da_one <| w_var rfl ⟨two, ?_⟩⟩⟩)
  refine ds_fors (l := false) (js := [5]) (fun _ i ρ' => ∃ (x : Option Sl) (past cur : List D), ρ' = [some .pot, some (.val (.int (n : Int))), some (.val (.lst rows)), some (.own past), some (.val (.tup [prog n (vs cur), .lst cur])), x, none, none, none, none] ∧ past.length = i ∧ (∀ d ∈ past, PastZ n d) ∧ cur.length ≤ 8 + i ∧ ∀ d ∈ cur, RowZ n d) <|
    di_rng1 <| da_one <| c_draw (n := 0) rfl rfl rfl <| w_int ⟨7, rfl, by decide, by decide, fun j j0 j1 => ⟨j, rfl, by omega, by omega, ⟨none, [], rows, rfl, rfl, nofun, by omega, hz⟩, ?_, ?_⟩⟩
  · rintro i d ρ' hd ⟨x, past, cur, rfl, hl, hp, hc, hcz⟩
    have il : i < j.toNat := by have := (List.getElem?_eq_some_iff.mp hd).1; rwa [rngD_len] at this
    refine ⟨_, dg_name, ?_⟩
    refine ds_app (i := 3) rfl (by omega) <| de_tup <| w_cons <| w_op <| w_var rfl <| w_int <| ox_tup (j := 0) rfl rfl <| da_one <| de_cb <| da_one <| w_op <| w_var rfl <| w_int <| ox_tup (j := 1) rfl rfl <| ca_list (.inl rfl) ⟨two, ?_⟩
    refine ds_set <| c_ch rfl rfl rfl n1 (by omega) (by omega) hcz (fun r2 h1 h2 => ?_) (w_cons <| w_op <| w_var rfl <| w_int <| ox_tup (j := 0) rfl rfl <| w_cons <| w_var rfl <| da_one <| w_op <| w_var rfl <| w_int <| ox_tup (j := 1) rfl rfl rfl)
    refine ds_if <| dt_not <| dt_B <| c_is rfl rfl rfl n1 (by omega) (by omega) h2 ⟨true, rfl, no1, fun _ => ds_next ?_⟩ (w_cons <| w_op <| w_var rfl <| w_int <| ox_tup (j := 0) rfl rfl <| w_cons <| w_var rfl <| da_one <| w_op <| w_var rfl <| w_int <| ox_tup (j := 1) rfl rfl rfl)
    refine ⟨_, _, r2, rfl, by rw [List.length_append, hl]; rfl, fun d hd => ?_, by omega, h2⟩
    rcases List.mem_append.mp hd with hd | hd
    · exact hp d hd
    · cases List.mem_singleton.mp hd
      exact ⟨cur, rfl, by omega, hcz⟩
  · rintro ρ' ⟨x, past, cur, rfl, hl, hp, _, _⟩
    rw [rngD_len] at hl
    refine ds_frz (i := 3) rfl ?_
    refine ds_set <| DF.de <| df_map (l := false) (js := [7]) greatRow <| di_rng1 <| da_one <| w_int ⟨24, rfl, by decide, by decide, by rw [rngD_len]; decide, fun i d hd => ⟨_, dg_name, de_tup <| w_cons <| DF.de <| df_rep <| DF.de <| df_lst <| da_one <| w_var rfl ⟨by show 1 ≤ sizeLine; decide, _, rfl, w_int ⟨16, rfl, by decide, (by show 1 * 16 ≤ 100000; decide), da_one <| w_var rfl ⟨two, rfl⟩⟩⟩⟩, ?_⟩
    have gz := great_rowz
    have gl := great_len
    show DS _ (List.set _ 6 (some (Sl.val (.lst greatD)))) _ _
    have mk : ∀ {R : D → Prop} {ρ : Ro}, ρ[6]? = some (some (Sl.val (.lst greatD))) → R (prog 16 (vs greatD)) → DE ⟨C, PotW, some p⟩ ρ (tMake (C 1).1 (spI C 1 preP postP) [] E0 (tCons (tC (.int 16)) (tCons (tVar 6) tNil))) R := fun h6 r =>
      c_mkP T rfl <| dla_cons <| dl_de <| w_int <| dla_cons <| dl_val h6 <| dla_nil ⟨16, false, greatD, rfl, ⟨16, false, greatD, rfl, by decide, by decide, by omega, fun d hd => (gz d hd).ok⟩, r⟩
    refine ds_ifs <| dt_not <| dt_B <| c_is (n := 16) (rows := greatD) rfl rfl rfl (by decide) (by decide) (by omega) gz ⟨true, rfl, no1, fun _ => ds_nexts ?_⟩ (w_cons <| mk rfl <| w_cons <| w_int <| da_one <| w_var rfl rfl)
    have hq : (vs greatD)[23]? = some (List.replicate 16 (vl (.int 23)), vl (.int 23)) := by
      unfold vs
      rw [List.getElem?_map, great_at (by decide)]
      rfl
    have wf := (vs_sz (n := 16) ⟨by omega, gz⟩).2
    have d24 : ∀ {α : Type} (l : List α), l.length = 24 → l.drop (23 + 1) = [] := fun l h => List.drop_of_length_le (by omega)
    have gz2 : ∀ d ∈ greatD.take 23 ++ [.tup [.lst (List.replicate 16 (.int 23)), .int (-5)]], RowZ 16 d := fun d hd => by
      rcases List.mem_append.mp hd with hd | hd
      · exact gz d (List.mem_of_mem_take hd)
      · cases List.mem_singleton.mp hd
        exact rowz_great (by decide) (nmz_int (by decide))
    have e2 : ((vs greatD).take 23 ++ [(List.replicate 16 (vl (.int 23)), vl (.int (-5)))]) ++ (vs greatD).drop (23 + 1) = vs (greatD.take 23 ++ [.tup [.lst (List.replicate 16 (.int 23)), .int (-5)]]) := by
      rw [d24 _ (by rw [vs_len]; exact gl), List.append_nil]
      unfold vs
      rw [List.map_append, List.map_take]
      rfl
    refine ds_ifs <| dt_not <| dt_B <| c_is (n := 16) (rows := greatD.take 23 ++ [.tup [.lst (List.replicate 16 (.int 23)), .int (-5)]]) rfl rfl rfl (by decide) (by decide) (by simp; omega) gz2 ⟨true, rfl, no1, fun _ => ds_nexts ?_⟩
      (w_cons <| de_meth (c := 1) (des := []) (no_wb T) (fun _ => .nil) <| mk rfl ⟨_, rfl, dla_cons <| dl_de <| w_int <| dla_cons <| dl_de <| w_un <| w_int <| ui_neg <| dla_nil (wb_end (n := 16) (k := 23) (rows := vs greatD) hq (.int (-5)) (by decide) (by decide) (by rw [vs_len]; omega) wf ?_)⟩)
    rotate_left
    · rw [e2]
      refine w_cons <| w_int <| da_one <| w_op <| w_slL <| w_var rfl ⟨_, rfl, do_none <| do_some <| w_int ⟨_, rfl, ?_⟩⟩
      rw [show (some (23 : Int)) = some ((23 : Nat) : Int) from rfl, cut_to (by omega)]
      exact de_lst <| da_one <| de_tup <| w_cons <| w_op <| w_op <| w_var rfl <| w_int <| ox_lst (i := (23 : Int)) (j := 23) (ixN_of (show 23 < greatD.length by rw [gl]; decide)) (great_at (by decide)) <| w_int <| ox_tup (j := 0) rfl rfl <| da_one <| w_un <| w_int <| ui_neg ⟨two, by show 1 ≤ sizeLine; decide, oc_lst (big_line (by simp; omega)) rfl⟩
    have e3 : (vs greatD).take 0 ++ (vs greatD).drop (0 + 1) = vs (greatD.drop 1) := by unfold vs; rw [List.take_zero, List.nil_append, List.map_drop]
    refine ds_ifs <| dt_not <| dt_B <| c_is (n := 16) (rows := greatD.drop 1) rfl rfl rfl (by decide) (by decide) (by simp; omega) (fun d hd => gz d (List.mem_of_mem_drop hd)) ⟨true, rfl, no1, fun _ => ds_nexts ?_⟩
      (w_cons <| de_meth (c := 1) (des := []) (no_wo T) (fun _ => .nil) <| mk rfl ⟨_, rfl, dla_cons <| dl_de <| w_int <| dla_nil (wo_end (n := 16) (k := 0) (rows := vs greatD) (by rw [vs_len]; omega) (by decide) (by decide) (by rw [vs_len]; omega) wf ?_)⟩)
    rotate_left
    · rw [e3]
      refine w_cons <| w_int <| da_one <| w_slL <| w_var rfl ⟨_, rfl, do_some <| w_int ⟨_, rfl, do_none ?_⟩⟩
      rw [show (some (1 : Int)) = some ((1 : Nat) : Int) from rfl, cut_from (by omega)]
      rfl
    refine ds_ret <| w_allB <| df_map (l := false) (js := [8, 9]) (fun _ => .bl true) <| di_list <| w_var rfl ⟨_, rfl, by omega, fun i d hd => ?_, List.replicate past.length true, ?_, ?_⟩
    · obtain ⟨r3, rfl, h1, h2⟩ := hp d (List.mem_of_getElem? hd)
      exact ⟨_, dg_tup2, c_is rfl rfl rfl n1 (by omega) h1 h2 rfl (w_cons <| w_var rfl <| w_cons <| w_var rfl <| da_one <| w_var rfl rfl)⟩
    · rw [List.map_const', List.map_replicate]
    · show D.bl _ = .bl true
      rw [List.all_eq_true.mpr (fun x hx => by rw [(List.mem_replicate.mp hx).2]; rfl)]
end
end K13
namespace K13
open PySem L2 GX GD KM
open Evl (Ex)
theorem set3 {j : Nat} {v : V} {σ : L2.St} : wipe ((wipe σ [j]).set j (some v)) [j] = wipe σ [j] := by
  show ((σ.set j none).set j (some v)).set j none = σ.set j none
  rw [List.set_set, List.set_set]
theorem lc_yesR {lo : Int} {n : Nat} {te : TE} {j : Nat} {σ : L2.St} {H1 : Hp} {D : Addr} {Qd : Hp → Prop} (Pv : Nat → Hp → Prop) (h0 : Pv 0 (upd H1 D (.lst [])))
    (hs : ∀ i H, i < n → Pv i H → te ((wipe σ [j]).set j (some (.int (lo + i)))) H fun y H4 => ∃ acc, H4 D = some (.lst acc) ∧ acc.length < sizeLine ∧ Pv (i + 1) (upd H4 D (.lst (acc ++ [y])))) (hd : ∀ H, Pv n H → Qd H) :
    ∃ W : Nat → Nat → Hp → Prop, (∃ m, W 0 m (upd H1 D (.lst []))) ∧ ∀ i m H, W i m H →
      ((Itr lo n).stop i H ∧ Qd H) ∨ ((Itr lo n).go i H ∧ ∃ Nx : Hp → Prop, (∀ H', Nx H' → ∃ m', m' < m ∧ W (i + 1) m' H') ∧ ∀ x H', (Itr lo n).yld i H x H' → gName j x (wipe σ [j]) H' fun σ2 H2 => wipe σ2 [j] = wipe σ [j] ∧ tYes σ2 H2 fun b H3 =>
        if b = true then te σ2 H3 fun y H4 => ∃ acc, H4 D = some (.lst acc) ∧ acc.length < sizeLine ∧ Nx (upd H4 D (.lst (acc ++ [y]))) else Nx H3) :=
  lc_range (g := gName j) (tt := tYes) Pv h0 (fun i H hi p => ⟨set3, iteT (B := Pv (i + 1) H) (hs i H hi p)⟩) hd
section
variable {P : Program} {w : World} {K : PySem.W.Frag} {mg : Str → Option Value} {base : Heap} {C : CT}
abbrev sLaw : Stmt := top 47
abbrev NsLaw : List Str := ["_law_script", "_law_k"]
theorem csLaw : FnScope NsLaw ["_law_script"] (defScope sLaw) := ⟨rfl, rfl, rfl, by decide +kernel, rfl, by decide +kernel, by decide +kernel⟩
def spLaw (K : PySem.W.Frag) : Sp := fun vs H Q _ => ∃ (a : Addr) (ns : List Int), vs = [.ref a] ∧ SqL K H a (ns.map V.int) ∧ ns.length ≤ 63 ∧ ∀ H', Q (.bl true) H'
theorem ok_law (T : Txt K mg C) (LPO : Df P w K mg base 1 "_law_pot" ["_law_script", "_law_k"] (spPot K)) (LRI : Dg P w K mg base 12 "_law_right" ["_law_pot_here"] (spRi C)) {f : Addr} {fd : FuncData} (F : Fun K "law" "law" sLaw f fd) : FnG P w K mg base CX0 13 f fd ["_law_script"] (spLaw K) := by
  refine okG F csLaw (fun vs H Q E h => ?_) (fun cdv A outer s H vs Q E gd hr h => ?_)
  · obtain ⟨a, ns, rfl, _⟩ := h
    rfl
  · obtain ⟨a, ns, rfl, hs, hl, k⟩ := h
    refine ⟨_, (pss_one (ps_ret (pe_callB (cr_all rfl) (by rfl) T.all (by decide +kernel) (pa_cons (pe_lc (own := [("_law_k", 1)]) (g := gName 1) (tt := tYes) rfl csLaw.nd (pi_range1 (by rfl) T.range (pa_cons (pe_callB (call_max2 rfl) (by rfl) T.max (by decide +kernel) (pa_cons pe_int (pa_cons (pe_callB (call_min2 rfl) (by rfl) T.min (by decide +kernel) (pa_cons pe_int (pa_cons (pe_callB call_len_seq (by rfl) T.len PySem.boot_len (pa_cons (pv 0) pa_nil)) pa_nil))) pa_nil))) pa_nil)) (blkOk_by (N := NsLaw) (sc := defScope sLaw) (by decide +kernel)) (fun _ _ _ _ _ => pg_name (i := 1) csLaw.nd rfl (Or.inl rfl)) (fun _ _ _ _ _ => pts_nil) (fun _ _ _ _ _ => by exact (pe_dg LRI gd hr (pa_cons (pe_df LPO hr (pa_cons (pv 0) (pa_cons (pv 1) pa_nil))) pa_nil)))) pa_nil)))), ?_⟩
    refine ⟨_, rfl, a, _, rfl, .inl hs, _, _, rfl, _, _, rfl, ?_⟩
    rw [List.length_map]
    obtain ⟨j, ej, j1, j2⟩ : ∃ j : Int, (if (if (ns.length : Int) < 2 then (ns.length : Int) else 2) > 1 then (if (ns.length : Int) < 2 then (ns.length : Int) else 2) else 1) = j ∧ 0 ≤ j ∧ j ≤ 2 := by
      refine ⟨_, rfl, ?_, ?_⟩
      · split
        · omega
        · decide
      · split
        · split <;> omega
        · decide
    rw [ej]
    refine ⟨j, rfl, by omega, by omega, fun D hD => lc_yesR (fun i H' => Ex H H' ∧ H' D = some (.lst (List.replicate i (.bl true)))) ⟨Evl.Ex.new hD, upd_same⟩ ?_ ?_⟩
    · rintro i H' hi ⟨e, hd⟩
      have hi' : i < 2 := by omega
      refine ⟨_, rfl, _, rfl, a, ns, (0 : Int) + i, rfl, L2.Same.seq e hs, by omega, by omega, fun p H1 o hp e1 ho pw => ?_⟩
      have nt : NT o := by obtain ⟨x, y, rfl, _⟩ := pw; exact fun _ z => nomatch z
      have hh : Has (some p) PotW (fun _ => none) H1 := by
        refine ⟨fun b u z => ?_, fun b z => ?_⟩
        · cases z
        · cases z
          exact ⟨rfl, o, ho, pw, nt⟩
      refine ⟨p, fun _ => none, [], [], rfl, hh, .nil, rfl, fun d v G2 H2 hd2 rv st => ?_⟩
      subst hd2
      cases rv
      have e02 : ∀ b o, H' b = some o → H2 b = some o := fun b o h => st.k b o (e1 b o h) (fun z => by
        rw [Option.some.inj z, hp] at h; cases h)
      refine ⟨List.replicate i (.bl true), e02 _ _ hd, (by rw [List.length_replicate]; exact Nat.lt_of_lt_of_le hi' (show 2 ≤ sizeLine by decide)), Evl.Ex.mut (e.trans e02) hD, ?_⟩
      rw [upd_same, List.replicate_succ']
    · rintro H1 ⟨e1, hd⟩
      refine ⟨D, List.replicate j.toNat true, rfl, SqL.of (by rw [List.map_replicate]; exact hd), ?_⟩
      rw [show (List.replicate j.toNat true).all id = true from by rw [List.all_eq_true]; intro x hx; rw [(List.mem_replicate.mp hx).2]; rfl]
      exact k _
end
end K13
namespace K13
open PySem L2 GX GD KM
open Evl (Ex)
section
variable {K : PySem.W.Frag} {C : CT} {A : Amb} {ρ : Ro} {t1 t2 : TE} {R : D → Prop} {mg : Str → Option Value}
/-- C(k = e, l = f), the names the other way about -/
theorem de_makeK2 {c : Nat} {pre : List D → Prop} {post : List D → List D → Prop} {E : XK}
    (h : DLA A ρ (tCons t1 (tCons t2 tNil)) fun ds => ∃ d f, ds = [d, f] ∧ pre [f, d] ∧ ∀ es, post [f, d] es → es.length = (A.C c).2.length ∧ R (.ins c es)) : DE A ρ (tMakeK (A.C c).1 0 2 (spI A.C c pre post) swV E tNil (tCons t1 (tCons t2 tNil))) R := fun G0 H0 σ G H Q e q => by
  show tCons t1 (tCons t2 tNil) σ H fun zs H2 => ([] : List V).length = 0 ∧ zs.length = 2 ∧ ∀ x dx, H2 x = none → H2 dx = none → dx ≠ x →
    spI A.C c pre post (swV (.ref x :: []) zs) (upd (upd H2 dx (.own x)) x (.ins (A.C c).1 dx [])) (fun v H3 => v = .non ∧ Q (.ref x) H3) E
  refine h G0 H0 σ G H _ e fun ds vs G2 H2 hp r s2 => ?_
  obtain ⟨d, f, rfl, hp⟩ := hp
  cases r with
  | cons a1 r =>
    cases r with
    | cons a2 r =>
      cases r
      refine ⟨rfl, rfl, ?_⟩
      intro x dx nx ndx nex
      have gx : ∀ {b : Addr}, H2 b = none → G2 b = none := fun {b} hb => Evl.fresh_back s2.h hb
      have e1 : Ex G2 (upd (upd H2 dx (.own x)) x (.ins (A.C c).1 dx [])) := s2.h.trans ((Ex.new ndx).trans (Ex.new (by rw [upd_ne (Ne.symm nex)]; exact nx)))
      have e0 : Ex (mns A.P H2) (mns none (upd (upd H2 dx (.own x)) x (.ins (A.C c).1 dx []))) := fun b o q => by
        have h2 := mns_ex b o q
        unfold mns
        rw [if_neg (by simp), upd_ne (ne_of_none h2 nx), upd_ne (ne_of_none h2 ndx)]
        exact h2
      refine ⟨x, dx, G2, [f, d], _, rfl, e1, gx nx, upd_same, (LoL.cons a2 (LoL.cons a1 .nil)).mono e0 (Ex.refl _), hp.1, fun es us G3 H3 hes rus h3 g3 keep eg eh hl => ⟨rfl, ?_⟩⟩
      have ks : ∀ b o, H2 b = some o → H3 b = some o := fun b o hb => by
        have nb : b ≠ x := ne_of_none hb nx
        refine keep b o nb ?_
        rw [upd_ne nb, upd_ne (ne_of_none hb ndx)]
        exact hb
      have st : A.St G2 H2 (upd G3 x (.ins (A.C c).1 dx (fsOf (A.C c).2 us []))) H3 := by
        refine (e.step s2).pure ⟨eg.trans (Ex.new g3), fun b o hb => ?_, fun b o hb _ => ks b o hb, fun b o h1 h2 h4 => ?_, fun b z => nomatch z⟩
        · by_cases hbx : b = x
          · subst hbx; rw [upd_same] at hb; cases hb; exact h3
          · rw [upd_ne hbx] at hb; exact eh b o hb
        · have nb : b ≠ x := ne_of_none h2 nx
          rw [upd_ne nb]
          refine hl b o nb h1 ?_ h4
          rw [upd_ne nb, upd_ne (ne_of_none h2 ndx)]
          exact h2
      exact q _ _ _ _ (hp.2 es hes).2 (.ins upd_same (rus.mono (Ex.new g3)) (hp.2 es hes).1) (s2.trans st)
/-- Program(rows = .., unknowns = ..) -/
theorem c_mkPK (T : Txt K mg C) (hA : A.C = C) (h : DLA A ρ (tCons t1 (tCons t2 tNil)) fun ds => ∃ (n : Nat) (t : Bool) (rows : List D), ds = [seqD t rows, .int (n : Int)] ∧ preP [.int (n : Int), seqD t rows] ∧ R (prog n (rows.map rv))) :
    DE A ρ (tMakeK (C 1).1 0 2 (spI C 1 preP postP) swV E0 tNil (tCons t1 (tCons t2 tNil))) R := by
  subst hA
  exact de_makeK2 (h.imp fun ds ⟨n, t, rows, e, hp, r⟩ => ⟨_, _, e, e_make T hp r⟩)
end
end K13
namespace K13
open PySem L2 GX GD KM
open Evl (Ex)
/-! Program(n): the rows that are not passed are the empty tuple that the top has laid -/
def Kn (K : PySem.W.Frag) (a : Addr) : Prop := ∃ (o : Obj) (n : Nat), K.lookup a = some o ∧ o.cls = .type "tuple" ∧ o.data = .seq #[] n
theorem Kn.sq {K : PySem.W.Frag} {a : Addr} (h : Kn K a) (H : Hp) : SqT K H a [] := by
  obtain ⟨o, n, h1, h2, h3⟩ := h
  exact .inr ⟨o, #[], n, h1, h2, h3, Nat.zero_le _, .nil⟩
theorem Kn.ty {K : PySem.W.Frag} {a : Addr} (h : Kn K a) (H : Hp) : TyX K H (.ref a) (.type "tuple") := by
  obtain ⟨o, n, h1, h2, h3⟩ := h
  exact .kTuple h1 h2
section
variable {P : Program} {w : World} {K : PySem.W.Frag} {mg : Str → Option Value} {base : Heap} {C : CT} {A : Amb} {ρ : Ro} {te : TE} {R : D → Prop} {a0 : Addr}
theorem iteF {p q : Prop} (h : q) : if (!true) = true then p else q := h
theorem iteF2 {b : Bool} {p q : Prop} (hb : b = false) (h : q) : if b = true then p else q := by subst hb; exact h
theorem raw_ifF {G0 H0 G H : Hp} {σ : L2.St} {tt : TT} {tu tv ts : TS} {E : Ends} (e : Here A G0 H0 ρ σ G H) (h : DT A ρ tt (· = false)) (k : ∀ G2 H2, A.St G H G2 H2 → tSeq tv ts E σ H2) : tSeq (tIfS tt tu tv) ts E σ H := h G0 H0 σ G H _ e fun b G2 H2 hb s => by subst hb; exact k G2 H2 s
def spIsL0 (a0 : Addr) : Sp := fun vs H Q _ => vs = [.ref a0] ∧ ∀ H', Ex H H' → Q (.bl true) H'
theorem ok_isL0 (T : Txt K mg C) (k : Kn K a0) {f : Addr} {fd : FuncData} (F : Fun K "is_list" "is_list" sIsList f fd) : FnOk P w K mg base CX0 1 f fd ["value"] (spIsL0 a0) := by
  refine F.ok csIsList (fun vs H Q E h => by obtain ⟨rfl, _⟩ := h; rfl) (fun cdv A outer s H vs Q E hr h => ⟨_, (pss_one (ps_ret (pe_callB call_isiT (by rfl) T.isinstance (by decide +kernel) (pa_cons (pv 0) (pa_cons (pe_tup (pa_cons (pe_bltn (v := .ty "list") (by rfl) T.list (by decide +kernel) rfl) (pa_cons (pe_bltn (v := .ty "tuple") (by rfl) T.tuple (by decide +kernel) rfl) pa_nil))) pa_nil))))), ?_⟩)
  obtain ⟨rfl, q⟩ := h
  exact ⟨.ref a0, rfl, (by show 2 ≤ sizeLine; decide), fun p np => ⟨.ref a0, p, [.ty "list", .ty "tuple"], .type "tuple", [.type "list", .type "tuple"], true, rfl, upd_same, .cons (.ty _) (.cons (.ty _) .nil), k.ty _,
    kitAny_cons (b := false) (kit_ty (by decide +kernel)) (fun _ => kitAny_cons (b := true) (r := true) (kit_ty (by decide +kernel)) no3 fun _ => rfl) no2, q _ (Ex.new np)⟩⟩
def spChkR0 (a0 : Addr) : Sp := fun vs H Q _ => ∃ n : Int, vs = [.ref a0, .int n] ∧ ∀ H', Ex H H' → Q .non H'
theorem ok_chkR0 (T : Txt K mg C) (k : Kn K a0) (DL_ : Df P w K mg base 1 "is_list" ["value"] (spIsL0 a0)) (DRW : Df P w K mg base 4 "is_row" ["value", "unknowns"] (spRow C)) {f : Addr} {fd : FuncData} (F : Fun K "check_rows" "check_rows" sCheckRows f fd) : FnOk P w K mg base CX0 5 f fd ["rows", "unknowns"] (spChkR0 a0) := by
  refine F.ok csCheckRows (fun vs H Q E h => by obtain ⟨n, rfl, _⟩ := h; rfl) (fun cdv A outer s H vs Q E hr h => ⟨_, (pss_cons (ps_if (pt_not (pt_val (pe_df DL_ hr (pa_cons (pv 0) pa_nil)))) (pss_one ps_never) pss_nil)
      (pss_one (ps_for PassesOwn.never rfl (pi_enumA (by rfl) T.enumerate (pa_cons (pv 0) pa_nil)) (pg_tup (by rfl) (pgs_cons (pg_name (i := 2) csCheckRows.nd rfl (.inl rfl)) (pgs_cons (pg_name (i := 3) csCheckRows.nd rfl (.inl rfl)) pgs_nil))) (pss_one (ps_if (pt_not (pt_val (pe_df DRW hr (pa_cons (pv 3) (pa_cons (pv 1) pa_nil))))) (pss_one ps_never) pss_nil))))), ?_⟩)
  obtain ⟨n, rfl, q⟩ := h
  refine ⟨.ref a0, rfl, rfl, fun H1 e1 => ⟨true, rfl, ?_⟩⟩
  refine iteF ?_
  refine ⟨.ref a0, rfl, true, a0, [], rfl, k.sq _, fun t m σ' H' => t = 0 ∧ σ' = _ ∧ H' = H1, ⟨0, rfl, rfl, rfl⟩, ?_⟩
  rintro t m σ' H' ⟨rfl, rfl, rfl⟩
  exact .inl ⟨⟨[], k.sq _, rfl⟩, q _ e1⟩
def spIn0 (C : CT) (a0 : Addr) : Sp := fun vs H Q _ => ∃ (x dx : Addr) (n : Nat), vs = [.ref x, .int (n : Int), .ref a0] ∧ 1 ≤ n ∧ n ≤ 16 ∧ H x = some (.ins (C 1).1 dx []) ∧
  ∀ l H2, H2 x = some (.ins (C 1).1 dx (fsOf (C 1).2 [.int (n : Int), .ref l] [])) → H2 l = some (.lst []) → H l = none → (∀ b o, b ≠ x → H b = some o → H2 b = some o) → Q .non H2
theorem ok_initP0 (T : Txt K mg C) (k : Kn K a0) (Z : Cst K C) (DI : Df P w K mg base 1 "is_integer" ["value"] (spIsI C)) (DCR : Df P w K mg base 5 "check_rows" ["rows", "unknowns"] (spChkR0 a0)) (DA_ : Df P w K mg base 4 "as_ratio" ["number"] (spAsR C)) (DAS : Df P w K mg base 5 "as_ratios" ["numbers"] (spAsRs C)) {T0 : List V} {f : Addr} {fd : FuncData}
    (F : FunD K "__init__" "Program.__init__" (defArgs sProgramInit) (defBody sProgramInit) (defScope sProgramInit) T0 [] f fd) : FnOk P w K mg base CX0 6 f fd ["self", "unknowns", "rows"] (spIn0 C a0) := by
  obtain ⟨mc, u1, u2, rd, v1, v2⟩ := Z.ex
  refine F.ok csProgramInit (fun vs H Q E h => by obtain ⟨x, dx, n, rfl, _⟩ := h; rfl) (fun cdv A outer s H vs Q E hr h => ⟨_, PSs.nox (pss_cons (ps_if (PW.pt (pw_or (pt_not (pt_val (pe_df DI hr (pa_cons (pv 1) pa_nil)))) (pw_or (pt_cmpR op_lt (pv 1) pe_int (nomark _)) (pw_or1 (pt_cmpR op_gt (pv 1) (ClX.pe_cval (pe_glob (v := .ref (C 1).1) (by rfl) T.mgProgram rfl)) (nomark _)))))) (pss_one ps_never) pss_nil)
      (pss_cons (ps_expr (pe_df DCR hr (pa_cons (pv 2) (pa_cons (pv 1) pa_nil))))
      (pss_cons (ps_if (pt_cmpR op_gt (pe_callB call_len_seq (by rfl) T.len PySem.boot_len (pa_cons (pv 2) pa_nil)) (ClX.pe_cval (pe_glob (v := .ref (C 1).1) (by rfl) T.mgProgram rfl)) (nomark _)) (pss_one ps_never) pss_nil)
      (pss_cons (ps_fld (pv 0) (pv 1) rfl)
      (pss_one (ps_fld (pv 0) (pe_lc (own := [("weights", 3), ("bound", 4)]) (g := gTup K 2 (gCons (gName 3) (gCons (gName 4) gNil))) (tt := tYes) rfl csProgramInit.nd (pi_or (pi_list (pv 2)) (pi_tup (pv 2))) (blkOk_by (N := NsProgramInit) (sc := defScope sProgramInit) (by decide +kernel)) (fun _ _ _ _ _ => pg_tup (by rfl) (pgs_cons (pg_name (i := 3) csProgramInit.nd rfl (.inl rfl)) (pgs_cons (pg_name (i := 4) csProgramInit.nd rfl (.inl rfl)) pgs_nil))) (fun _ _ _ _ _ => pts_nil) (fun _ _ _ _ _ => by exact (pe_tup (pa_cons (pe_callTy (call_tuple_ofK K rfl) (by rfl) T.tuple (by decide +kernel) (pa_cons (pe_df DAS hr (pa_cons (pv 3) pa_nil)) pa_nil)) (pa_cons (pe_df DA_ hr (pa_cons (pv 4) pa_nil)) pa_nil))))) rfl)))))), ?_⟩)
  obtain ⟨x, dx, n, rfl, n1, n16, hx, q⟩ := h
  have hh : Has none (fun _ => True) (fun _ => none) H := Has.none fun b o z => nomatch z
  have e : Here ⟨C, fun _ => True, none⟩ (fun _ => none) H [none, some (.val (.int (n : Int))), none, none, none] (L2.start NsProgramInit [.ref x, .int (n : Int), .ref a0]) (fun _ => none) H := by
    have e := (start_here (A := ⟨C, fun _ => True, none⟩) (N := NsProgramInit) (ds := [.int 0, .int (n : Int), .int 0]) (vs := [.int 0, .int (n : Int), .int 0]) hh (.cons (.of (.int _)) (.cons (.of (.int _)) (.cons (.of (.int _)) .nil))))
    exact (e.drop 0 (some (.ref x))).drop 2 (some (.ref a0))
  refine raw_ifF e (dt_or <| dt_not <| dt_B <| c_isI (C := C) rfl (.int _) rfl ⟨true, rfl, no1, fun _ => dt_or <| dt_test <| w_op <| w_var rfl <| w_int <| ob_I0 (k := fun i j => decide (i < j)) rfl ⟨_, rfl, fun z => (by have := of_decide_eq_true z; omega), fun _ => dt_test <| w_op <| w_var rfl <| w_cval rd v1 <| ob_I0 (k := fun i j => decide (j < i)) rfl ⟨_, rfl, decide_eq_false (by omega)⟩⟩⟩) fun G2 H2 s2 => ?_
  have k2 : Ex H H2 := fun b o z => s2.k b o z (by simp)
  refine ⟨.ref a0, rfl, .int (n : Int), rfl, n, rfl, fun H3 e3 => ?_⟩
  have e03 : Ex H H3 := k2.trans e3
  refine ⟨.ref a0, rfl, a0, [], rfl, .inr (k.sq _), (C 1).1, mc, _, u2, rfl, rd, v2, _, _, rfl, rfl, _, rfl, iteF2 (decide_eq_false (by show ¬ ((24 : Int) < ((([] : List V).length : Nat) : Int)); decide)) ?_⟩
  refine ⟨.int (n : Int), rfl, .ref x, rfl, x, (C 1).1, dx, [], rfl, e03 _ _ hx, T.kP.cl, T.nU, by decide, ?_⟩
  refine .inr ⟨.ref a0, rfl, a0, rfl, ⟨[], k.sq _⟩, fun D hD => ⟨fun t m H' => t = 0 ∧ H' = upd (upd H3 x (.ins (C 1).1 dx (putF "_unknowns" (.int (n : Int)) []))) D (.lst []), ⟨0, rfl, rfl⟩, ?_⟩⟩
  rintro t m H' ⟨rfl, rfl⟩
  have xD : x ≠ D := fun z => by subst z; rw [upd_same] at hD; cases hD
  have h3D : H3 D = none := by rw [upd_ne (Ne.symm xD)] at hD; exact hD
  refine .inl ⟨⟨[], k.sq _, Nat.le_refl _⟩, .ref x, rfl, x, (C 1).1, dx, _, rfl, by rw [upd_ne xD, upd_same], T.kP.cl, T.nW, Nat.lt_of_le_of_lt (putF_len []) (by decide), ?_⟩
  refine q D _ ?_ ?_ ?_ fun b o hb ho => ?_
  · rw [upd_same, T.fP]
    rfl
  · rw [upd_ne (Ne.symm xD), upd_same]
  · cases hq : H D with
    | none => rfl
    | some o => rw [e03 _ _ hq] at h3D; cases h3D
  · have h3 := e03 _ _ ho
    have bD : b ≠ D := ne_of_none h3 h3D
    rw [upd_ne hb, upd_ne bD, upd_ne hb]
    exact h3
/-- Program(n), what it is made with -/
structure MkP0 (P : Program) (w : World) (K : PySem.W.Frag) (mg : Str → Option Value) (base : Heap) (C : CT) (f : Addr) where
  fd : FuncData
  a0 : Addr
  ds : List Value
  F : FnOk P w K mg base CX0 6 f fd ["self", "unknowns", "rows"] (spIn0 C a0)
  b1 : Binds K fd ["self", "unknowns", "rows"] ds
  d1 : Vals [.ref a0] ds
theorem c_mk0 (T : Txt K mg C) (hA : A.C = C) {a0 : Addr} (h : DE A ρ te fun d => ∃ n : Nat, d = .int (n : Int) ∧ 1 ≤ n ∧ n ≤ 16 ∧ R (prog n [])) : DE A ρ (tMake (C 1).1 (spIn0 C a0) [.ref a0] E0 (tCons te tNil)) R := fun G0 H0 σ G H Q e q => by
  subst hA
  refine h G0 H0 σ G H _ e fun d v G2 H2 hd rv s2 => ?_
  obtain ⟨n, rfl, n1, n16, hr⟩ := hd
  cases rv
  intro x dx nx ndx nex
  refine ⟨x, dx, n, rfl, n1, n16, upd_same, fun l H3 hx hl nl keep => ⟨rfl, ?_⟩⟩
  have xl : l ≠ x := fun z => by subst z; rw [upd_same] at nl; cases nl
  have n2 : H2 l = none := by
    rw [upd_ne xl] at nl
    by_cases z : l = dx
    · subst z; exact ndx
    · rw [upd_ne z] at nl; exact nl
  have g2 : ∀ {b : Addr}, H2 b = none → G2 b = none := fun {b} hb => Evl.fresh_back s2.h hb
  have ks : ∀ b o, H2 b = some o → H3 b = some o := fun b o hb => by
    have nb : b ≠ x := ne_of_none hb nx
    refine keep b o nb ?_
    rw [upd_ne nb, upd_ne (ne_of_none hb ndx)]
    exact hb
  have gl : G2 l = none := g2 n2
  have gx : upd G2 l (.lst []) x = none := by rw [upd_ne (Ne.symm xl)]; exact g2 nx
  have st : A.St G2 H2 (upd (upd G2 l (.lst [])) x (.ins (A.C 1).1 dx (fsOf (A.C 1).2 [.int (n : Int), .ref l] []))) H3 := by
    refine (e.step s2).pure ⟨(Ex.new gl).trans (Ex.new gx), fun b o hb => ?_, fun b o hb _ => ks b o hb, fun b o h1 h2 _ => ?_, fun b z => nomatch z⟩
    · by_cases hbx : b = x
      · subst hbx; rw [upd_same] at hb; cases hb; exact hx
      · rw [upd_ne hbx] at hb
        by_cases hbl : b = l
        · subst hbl; rw [upd_same] at hb; cases hb; exact hl
        · rw [upd_ne hbl] at hb; exact ks b o (s2.h b o hb)
    · rw [upd_ne (ne_of_none h2 nx), upd_ne (ne_of_none h2 n2)]
      exact h1
  refine q _ _ _ _ hr (.ins upd_same (.cons (.int _) (.cons (.lst ?_ .nil) .nil)) (by rw [T.fP]; rfl)) (s2.trans st)
  rw [upd_ne xl, upd_same]
end
end K13
/-! Rows that are written alike are the same. -/
namespace K13
open PySem L2 GX GD KM
def cl (s : Str) : List Nat := s.cps.toList
theorem cl_app (a b : Str) : cl (a ++ b) = cl a ++ cl b := by
  unfold cl
  rw [Str.cps_append, Array.toList_append]
theorem cl_of (s : String) : cl (Str.ofString s) = s.toList.map Char.toNat := by rw [Str.ofString_eq_toList]; rfl
def icl (i : Int) : List Nat := cl (iT i)
theorem icl_nat (n : Nat) : icl (Int.ofNat n) = (Nat.toDigits 10 n).map Char.toNat := by
  unfold icl iT
  rw [cl_of]
  show ((Nat.repr n).toList).map _ = _
  rw [Nat.toList_repr]
theorem icl_neg (n : Nat) : icl (Int.negSucc n) = 45 :: (Nat.toDigits 10 (n + 1)).map Char.toNat := by
  unfold icl iT
  rw [cl_of]
  show (("-" ++ Nat.repr (n + 1)).toList).map _ = _
  rw [String.toList_append, Nat.toList_repr, List.map_append]
  rfl
theorem dig_in {n x : Nat} (h : x ∈ (Nat.toDigits 10 n).map Char.toNat) : 48 ≤ x ∧ x ≤ 57 := by
  obtain ⟨c, hc, rfl⟩ := List.mem_map.mp h
  have := Nat.isDigit_of_mem_toDigits (by decide) (by decide) hc
  unfold Char.isDigit at this
  rw [Bool.and_eq_true, decide_eq_true_eq, decide_eq_true_eq] at this
  exact ⟨this.1, this.2⟩
theorem icl_in {i : Int} {x : Nat} (h : x ∈ icl i) : x = 45 ∨ (48 ≤ x ∧ x ≤ 57) := by
  cases i with
  | ofNat n => rw [icl_nat] at h; exact .inr (dig_in h)
  | negSucc n =>
    rw [icl_neg] at h
    rcases List.mem_cons.mp h with h | h
    · exact .inl h
    · exact .inr (dig_in h)
theorem chr_inj : ∀ {as bs : List Char}, as.map Char.toNat = bs.map Char.toNat → as = bs
  | [], [], _ => rfl
  | [], _ :: _, h => by cases h
  | _ :: _, [], h => by cases h
  | a :: as, b :: bs, h => by
    rw [List.map_cons, List.map_cons] at h
    injection h with h1 h2
    rw [Char.toNat_inj.mp h1, chr_inj h2]
theorem dig_inj {n m : Nat} (h : (Nat.toDigits 10 n).map Char.toNat = (Nat.toDigits 10 m).map Char.toNat) : n = m := by
  have := chr_inj h
  rw [← Nat.ofDigitChars_toDigits (b := 10) (n := n) (by decide) (by decide), this, Nat.ofDigitChars_toDigits (by decide) (by decide)]
theorem icl_inj {i j : Int} (h : icl i = icl j) : i = j := by
  cases i with
  | ofNat n =>
    cases j with
    | ofNat m => rw [icl_nat, icl_nat] at h; rw [dig_inj h]
    | negSucc m =>
      rw [icl_nat, icl_neg] at h
      have : (45 : Nat) ∈ (Nat.toDigits 10 n).map Char.toNat := by rw [h]; exact List.mem_cons_self
      have := dig_in this
      omega
  | negSucc n =>
    cases j with
    | ofNat m =>
      rw [icl_nat, icl_neg] at h
      have : (45 : Nat) ∈ (Nat.toDigits 10 m).map Char.toNat := by rw [← h]; exact List.mem_cons_self
      have := dig_in this
      omega
    | negSucc m =>
      rw [icl_neg, icl_neg] at h
      injection h with _ h
      have := dig_inj h
      have : n = m := by omega
      rw [this]
theorem split_at {c : Nat} : ∀ {a b u v : List Nat}, c ∉ a → c ∉ b → a ++ c :: u = b ++ c :: v → a = b ∧ u = v
  | [], [], _, _, _, _, h => by
    injection h with _ h
    exact ⟨rfl, h⟩
  | [], y :: b, _, _, _, hb, h => by
    injection h with h1 _
    exact absurd (by rw [h1]; exact List.mem_cons_self) hb
  | x :: a, [], _, _, ha, _, h => by
    injection h with h1 _
    exact absurd (by rw [← h1]; exact List.mem_cons_self) ha
  | x :: a, y :: b, _, _, ha, hb, h => by
    injection h with h1 h2
    obtain ⟨h3, h4⟩ := split_at (fun z => ha (List.mem_cons_of_mem _ z)) (fun z => hb (List.mem_cons_of_mem _ z)) h2
    rw [h1, h3]
    exact ⟨rfl, h4⟩
/-- one reads back what it was made of, whatever follows -/
def Pd {α : Type} (Q : α → Prop) (f : α → List Nat) : Prop := ∀ x y u v, Q x → Q y → f x ++ u = f y ++ v → x = y ∧ u = v
theorem rcl_eq (r : Rat) : cl (rpT r) = cl (Str.ofString "Ratio(") ++ (icl r.num ++ 44 :: (32 :: (icl (r.den : Int) ++ 41 :: []))) := by
  unfold rpT icl
  rw [cl_app, cl_app, cl_app, cl_app, cl_app, show cl Str.empty = [] from rfl, show cl (Str.ofString ", ") = [44, 32] from by rw [cl_of]; rfl, show cl (Str.ofString ")") = [41] from by rw [cl_of]; rfl]
  simp
theorem not_in {i : Int} {c : Nat} (h : c = 44 ∨ c = 41) : c ∉ icl i := fun z => by
  have := icl_in z
  omega
theorem rp_pd : Pd (fun _ : Rat => True) fun r => cl (rpT r) := fun r s u v _ _ h => by
  simp only [] at h
  rw [rcl_eq, rcl_eq] at h
  simp only [List.append_assoc, List.cons_append, List.nil_append] at h
  have h := List.append_cancel_left h
  obtain ⟨h1, h2⟩ := split_at (not_in (.inl rfl)) (not_in (.inl rfl)) h
  injection h2 with _ h2
  obtain ⟨h3, h4⟩ := split_at (not_in (.inr rfl)) (not_in (.inr rfl)) h2
  have h5 := icl_inj h1
  have h6 := icl_inj h3
  exact ⟨Rat.ext h5 (by omega), h4⟩
def tails {α : Type} (f : α → List Nat) (xs : List α) : List Nat := xs.flatMap fun x => 44 :: 32 :: f x
theorem tails_pd {α : Type} {Q : α → Prop} {f : α → List Nat} (hf : Pd Q f) : ∀ {xs ys : List α} {u v : List Nat}, xs.length = ys.length → (∀ x ∈ xs, Q x) → (∀ y ∈ ys, Q y) → tails f xs ++ u = tails f ys ++ v → xs = ys ∧ u = v
  | [], [], _, _, _, _, _, h => ⟨rfl, h⟩
  | [], _ :: _, _, _, hl, _, _, _ => by cases hl
  | _ :: _, [], _, _, hl, _, _, _ => by cases hl
  | x :: xs, y :: ys, u, v, hl, hx, hy, h => by
    unfold tails at h
    rw [List.flatMap_cons, List.flatMap_cons, List.cons_append, List.cons_append, List.cons_append, List.cons_append, List.cons_append, List.cons_append, List.cons_append, List.cons_append] at h
    injection h with _ h
    injection h with _ h
    rw [List.append_assoc, List.append_assoc] at h
    obtain ⟨h1, h2⟩ := hf _ _ _ _ (hx _ List.mem_cons_self) (hy _ List.mem_cons_self) h
    obtain ⟨h3, h4⟩ := tails_pd hf (by simpa using hl) (fun z hz => hx z (List.mem_cons_of_mem _ hz)) (fun z hz => hy z (List.mem_cons_of_mem _ hz)) h2
    rw [h1, h3]
    exact ⟨rfl, h4⟩
def body {α : Type} (f : α → List Nat) : List α → List Nat
  | [] => []
  | x :: xs => f x ++ tails f xs
theorem cl_from {α : Type} {g : α → Str} : ∀ (xs : List α) (k : Nat) (acc : Str), 0 < k → cl (textFrom k acc (xs.map g)) = cl acc ++ tails (fun x => cl (g x)) xs
  | [], _, acc, _ => by
    show cl acc = cl acc ++ []
    rw [List.append_nil]
  | x :: xs, k, acc, hk => by
    show cl (textFrom (k + 1) (acc ++ (if k > 0 then ", " else "" : String) ++ g x) (xs.map g)) = _
    rw [cl_from xs (k + 1) _ (Nat.succ_pos k), cl_app, cl_app, if_pos hk, show cl (Str.ofString ", ") = [44, 32] from by rw [cl_of]; rfl]
    unfold tails
    rw [List.flatMap_cons]
    simp
theorem cl_list {α : Type} {g : α → Str} (xs : List α) : cl (listText (xs.map g)) = 91 :: (body (fun x => cl (g x)) xs ++ [93]) := by
  unfold listText
  rw [cl_app, show cl (Str.ofString "]") = [93] from by rw [cl_of]; rfl]
  cases xs with
  | nil =>
    show cl (Str.ofString "[") ++ [93] = _
    rw [show cl (Str.ofString "[") = [91] from by rw [cl_of]; rfl]
    rfl
  | cons x xs =>
    show cl (textFrom 1 (Str.ofString "[" ++ (if 0 > 0 then ", " else "" : String) ++ g x) (xs.map g)) ++ [93] = _
    rw [cl_from xs 1 _ (by decide), cl_app, cl_app, if_neg (by decide), show cl (Str.ofString "[") = [91] from by rw [cl_of]; rfl, show cl (Str.ofString "") = [] from by rw [cl_of]; rfl]
    simp [body]
theorem list_pd {α : Type} {Q : α → Prop} {g : α → Str} (hf : Pd Q fun x => cl (g x)) (n : Nat) : Pd (fun xs : List α => xs.length = n ∧ ∀ x ∈ xs, Q x) fun xs => cl (listText (xs.map g)) := fun xs ys u v hx hy h => by
  simp only [] at h
  rw [cl_list, cl_list, List.cons_append, List.cons_append] at h
  injection h with _ h
  rw [List.append_assoc, List.append_assoc] at h
  have hl : xs.length = ys.length := by rw [hx.1, hy.1]
  cases xs with
  | nil =>
    cases ys with
    | nil =>
      injection h with _ h
      exact ⟨rfl, h⟩
    | cons y ys => cases hl
  | cons x xs =>
    cases ys with
    | nil => cases hl
    | cons y ys =>
      rw [body, body, List.append_assoc, List.append_assoc] at h
      obtain ⟨h1, h2⟩ := hf _ _ _ _ (hx.2 _ List.mem_cons_self) (hy.2 _ List.mem_cons_self) h
      obtain ⟨h3, h4⟩ := tails_pd hf (by simpa using hl) (fun z hz => hx.2 z (List.mem_cons_of_mem _ hz)) (fun z hz => hy.2 z (List.mem_cons_of_mem _ hz)) h2
      injection h4 with _ h4
      rw [h1, h3]
      exact ⟨rfl, h4⟩
theorem cl_tup (a b : Str) : cl (tupleText [a, b]) = 40 :: (cl a ++ (44 :: 32 :: (cl b ++ [41]))) := by
  unfold tupleText
  show cl ((Str.ofString "(" ++ (a ++ Str.ofString ", " ++ b)) ++ Str.ofString ")") = _
  rw [cl_app, cl_app, cl_app, cl_app, show cl (Str.ofString ", ") = [44, 32] from by rw [cl_of]; rfl, show cl (Str.ofString ")") = [41] from by rw [cl_of]; rfl, show cl (Str.ofString "(") = [40] from by rw [cl_of]; rfl]
  simp
theorem row_pd (n : Nat) : Pd (fun w : List Rat × Rat => w.1.length = n) fun w => cl (rowT w) := fun w z u v hw hz h => by
  simp only [] at h
  unfold rowT at h
  rw [cl_tup, cl_tup, List.cons_append, List.cons_append] at h
  injection h with _ h
  rw [List.append_assoc, List.append_assoc] at h
  obtain ⟨h1, h2⟩ := list_pd rp_pd n _ _ _ _ ⟨hw, fun _ _ => trivial⟩ ⟨hz, fun _ _ => trivial⟩ h
  rw [List.cons_append, List.cons_append, List.cons_append, List.cons_append] at h2
  injection h2 with _ h2
  injection h2 with _ h2
  rw [List.append_assoc, List.append_assoc] at h2
  obtain ⟨h3, h4⟩ := rp_pd _ _ _ _ trivial trivial h2
  rw [List.cons_append, List.cons_append] at h4
  injection h4 with _ h4
  exact ⟨Prod.ext h1 h3, h4⟩
theorem rowsT_inj {n : Nat} {r s : List (List Rat × Rat)} (hr : WfP n r) (hs : WfP n s) (hl : r.length = s.length) (h : rowsT r = rowsT s) : r = s :=
  (list_pd (row_pd n) s.length r s [] [] ⟨hl, hr⟩ ⟨rfl, hs⟩ (by
    have : cl (rowsT r) = cl (rowsT s) := by rw [h]
    unfold rowsT at this
    simp only [List.append_nil]
    exact this)).1
end K13
namespace K13
open PySem L2 GX GD KM
open Evl (Ex)
/-! rows as they are drawn, shown -/
theorem shw_one {own : Nat → List D → Str → Prop} (ho : ∀ r : Rat, Sz 1900 r → own 0 [.int r.num, .int (r.den : Int)] (rpT r)) {b : D} (h : NmZ b) : ∃ t, Shw own b t ∧ t.length ≤ 3851 := by
  obtain ⟨ts, h1, h2, h3⟩ := shw_nums ho (us := [b]) fun d hd => by cases List.mem_singleton.mp hd; exact h
  cases h1 with
  | cons s r =>
    cases r
    exact ⟨_, s, h3 _ (by simp)⟩
theorem shw_drawn {own : Nat → List D → Str → Prop} {n : Nat} (n16 : n ≤ 16) (ho : ∀ r : Rat, Sz 1900 r → own 0 [.int r.num, .int (r.den : Int)] (rpT r)) : ∀ {rows : List D}, (∀ d ∈ rows, RowZ n d) → ∃ ts, ShwL own rows ts ∧ ts.length = rows.length ∧ ∀ t ∈ ts, t.length ≤ 123309
  | [], _ => ⟨[], .nil, rfl, nofun⟩
  | d :: rows, h => by
    obtain ⟨ts, h1, h2, h3⟩ := shw_drawn n16 ho (rows := rows) fun x hx => h x (List.mem_cons_of_mem _ hx)
    obtain ⟨ws, b, rfl, hl, hw, hb⟩ := (h d List.mem_cons_self).ex
    obtain ⟨tw, w1, w2, w3⟩ := shw_nums ho hw
    obtain ⟨tb, b1, b2⟩ := shw_one ho hb
    have l1 : (listText tw).length ≤ 61651 := lst_le (c := 3851) (n := 16) w3 (by omega)
    have l2 : (tupleText [listText tw, tb]).length ≤ 123309 := tup_le (c := 61651) (n := 2) (fun t ht => by
      simp at ht
      rcases ht with rfl | rfl
      · exact l1
      · exact Nat.le_trans b2 (by decide)) (by simp)
    refine ⟨tupleText [listText tw, tb] :: ts, .cons (.tup (.cons (.lst w1 (big_line (Nat.le_trans l1 (by decide)))) (.cons b1 .nil)) (big_line (Nat.le_trans l2 (by decide)))) h1, by simp [h2], fun t ht => ?_⟩
    rcases List.mem_cons.mp ht with rfl | ht
    · exact l2
    · exact h3 t ht
theorem dep_drawn {n : Nat} : ∀ {rows : List D}, (∀ d ∈ rows, RowZ n d) → depL rows ≤ 2
  | [], _ => by decide
  | d :: rows, h => by
    have h1 := dep_drawn (rows := rows) fun x hx => h x (List.mem_cons_of_mem _ hx)
    obtain ⟨ws, b, rfl, hl, hw, hb⟩ := (h d List.mem_cons_self).ex
    have hb2 : dep b = 0 := by
      have := dep_nums (us := [b]) fun d hd => by cases List.mem_singleton.mp hd; exact hb
      rw [depL, depL] at this
      omega
    rw [depL, dep, depL, dep, dep_nums hw, depL, depL, hb2]
    exact Nat.max_le.mpr ⟨by decide, h1⟩
section
variable {P : Program} {w : World} {K : PySem.W.Frag} {mg : Str → Option Value} {base : Heap} {C : CT} {A : Amb} {ρ : Ro} {te ta tb : TE} {tl : TA} {tu ts tv : TS} {tt : TT} {N : Nd} {R : D → Prop}
/-- repr of loose data -/
theorem l_repr {X : Cx} {j : Nat} (hA : A.C = C) (h : DL A ρ te fun x => ∃ t, Shw (OwnR X C 1) x t ∧ 1 + dep x + 3 ≤ j ∧ R (.str t)) : DE A ρ (tCB (rRpX X C 1 j) (tCons te tNil)) R := by
  subst hA
  exact de_dl <| dl_cb <| dla_cons <| h.imp fun x ⟨t, a, b, c⟩ => dla_nil <| cal_of <| ca_repr a b ⟨rfl, rfl, c⟩
/-- if t: s, where s leaves all as it is -/
theorem ds_ifsM (h : DT A ρ tt fun b => b = true → DS A ρ tv { N with nx := (· = ρ) }) (k : DS A ρ ts N) : DS A ρ (tSeq (tIfS tt tv tNext) ts) N :=
  ds_cut (M := (· = ρ)) (ds_if (h.imp fun b hb => ⟨hb, fun _ => ds_next rfl⟩)) fun _ e => by subst e; exact k
theorem ds_ifsF (h : DT A ρ tt (· = false)) (k : DS A ρ ts N) : DS A ρ (tSeq (tIfS tt tv tNext) ts) N := ds_ifs (h.imp fun b hb => ⟨fun e => (by subst hb; cases e), fun _ => ds_nexts k⟩)
theorem c_shownD (hA : A.C = C) (h : DE A ρ te fun x => ∃ n rows, x = .lst rows ∧ RowsZ n rows ∧ n ≤ 16 ∧ R (.str (rowsT (vs rows)))) : DE A ρ (tCall (spShown C) [] E0 (tCons te tNil)) R := by
  subst hA
  refine de_call0 <| dla_cons <| dl_de <| h.imp fun x ⟨n, rows, e, hz, n16, r⟩ => dla_nil ⟨⟨n, rows, by rw [e], hz, n16⟩, fun d hd => ?_⟩
  obtain ⟨r2, e2, rfl⟩ := hd
  subst e
  cases e2
  exact r
theorem ds_appN1 {i : Nat} {c : V} (vp : Vp i ρ) (il : ρ[i]? = some none) (h : DN A ρ te fun d => ∃ ds, d = .lst ds ∧ ds.length ≤ 1000 ∧ N.nx ρ) : DS A ρ (tDrop (tBM K "list" rAppend te (tCons (tC c) tNil))) N :=
  ds_appN (tu := tNext) vp il (h.imp fun d ⟨ds, e, hl, hn⟩ => ⟨ds, e, hl, ds_next hn⟩)
theorem n_get0 {i n k : Nat} {rows : List (List Rat × Rat)} {r : List Rat × Rat} (hA : A.C = C) (h1 : ρ[i]? = some (some (Sl.val (prog n rows)))) (hk : rows[k]? = some r) (q : R (trow r)) : DN A ρ (tOp (rIxO (C 1).1 (spGet C) E0) (tVar i) (tC (.int (k : Int)))) R := by
  subst hA
  refine n_ixO <| w_var h1 ⟨_, rfl, w_int ⟨_, rfl, ⟨n, rows, k, rfl, (List.getElem?_eq_some_iff.mp hk).1⟩, fun d hd => ?_⟩⟩
  obtain ⟨m, r2, k2, s, e, hs, rfl⟩ := hd
  obtain ⟨e1, e2⟩ := List.cons.inj e
  have e3 := (List.cons.inj e2).1
  injection e3 with e3
  have : k = k2 := by omega
  subst this
  rw [← (prog_inj e1).2, hk] at hs
  cases hs
  exact q
/-- the own == of programs -/
theorem own_Q {X : Cx} (M_eq : Mt X.prog X.w X.K X.mg X.base C 1 6 "__eq__" ["self", "other"] (spEqP C)) (n m : Nat) (r s : List (List Rat × Rat)) : OwnQ X C 6 1 [.int (n : Int), .lst (r.map krow)] [.int (m : Int), .lst (s.map krow)] (decide (n = m) && decide (r = s)) :=
  ⟨M_eq.f, M_eq.fd, _, _, M_eq.F, M_eq.b, M_eq.m.at_, M_eq.m.fn, ⟨n, r, _, rfl, .inl ⟨m, s, rfl⟩⟩, fun d hd => by
    obtain ⟨n2, r2, y, e, hy⟩ := hd
    obtain ⟨e1, e2⟩ := List.cons.inj e
    have e3 := (List.cons.inj e2).1
    have p1 := prog_inj (n := n) (m := n2) (r := r) (s := r2) e1
    rcases hy with ⟨m2, r3, rfl, rfl⟩ | ⟨hy, _⟩
    · have p2 := prog_inj (n := m) (m := m2) (r := s) (s := r3) e3
      rw [← p1.1, ← p1.2, ← p2.1, ← p2.2]
    · exact absurd e3.symm (hy _ _)⟩
theorem own_V {X : Cx} (M_eq : Mt X.prog X.w X.K X.mg X.base C 1 6 "__eq__" ["self", "other"] (spEqP C)) (n m : Nat) (r s : List (List Rat × Rat)) : OwnV X C 6 1 [.int (n : Int), .lst (r.map krow)] (prog m s) (decide (n = m) && decide (r = s)) :=
  ⟨(own_Q M_eq n m r s).ex, by
    show PySem.W.notFirst X.K (C 1).1 (.ref (C 1).1) = true
    simp [PySem.W.notFirst]⟩
theorem own_V0 {X : Cx} (nf : ∀ x ∈ ["int", "tuple", "list", "NoneType", "str"], PySem.W.notFirst X.K (C 1).1 (.type x) = true) (M_eq : Mt X.prog X.w X.K X.mg X.base C 1 6 "__eq__" ["self", "other"] (spEqP C)) (n : Nat) (r : List (List Rat × Rat)) {e : D} (h : NoIns e) (h2 : ∀ b, e ≠ .bl b) :
    OwnV X C 6 1 [.int (n : Int), .lst (r.map krow)] e false :=
  ⟨⟨M_eq.f, M_eq.fd, _, _, M_eq.F, M_eq.b, M_eq.m.at_, M_eq.m.fn, ⟨n, r, _, rfl, .inr ⟨h, h2⟩⟩, fun d hd => by
    obtain ⟨n2, r2, y, e', hy⟩ := hd
    have e3 := (List.cons.inj (List.cons.inj e').2).1
    rcases hy with ⟨m2, r3, rfl, _⟩ | ⟨_, hd⟩
    · exact absurd e3 (h _ _)
    · exact hd⟩, by
    cases e with
    | non => exact nf _ (by simp)
    | bl b => exact absurd rfl (h2 b)
    | int i => exact nf _ (by simp)
    | str i => exact nf _ (by simp)
    | lst i => exact nf _ (by simp)
    | tup i => exact nf _ (by simp)
    | ins k es => exact absurd rfl (h k es)⟩
theorem ownV_cg {X X' : Cx} {k c : Nat} {ds : List D} {e : D} {b : Bool} (h1 : X'.prog = X.prog) (h2 : X'.w = X.w) (h3 : X'.K = X.K) (h4 : X'.mg = X.mg) (h5 : X'.base = X.base) (o : OwnV X' C k c ds e b) : OwnV X C k c ds e b :=
  ⟨by rw [← h1, ← h2, ← h3, ← h4, ← h5]; exact o.ex, by rw [← h3]; exact o.nf⟩
/-- the same within a comprehension -/
theorem op_eqVof {X X' : Cx} {k j : Nat} (h1 : X'.prog = X.prog) (h2 : X'.w = X.w) (h3 : X'.K = X.K) (h4 : X'.mg = X.mg) (h5 : X'.base = X.base) (hr : Room j X.A) : OpR X (compareOp .Eq) (rEqV X' C k j) := fun pins s σ H x y u v Q I rx ry ⟨c, ds, e, b, G, xg, r1, r2, o, hj, q⟩ =>
  op_eqV hr pins s σ H x y u v Q I rx ry ⟨c, ds, e, b, G, xg, r1, r2, ownV_cg h1 h2 h3 h4 h5 o, hj, q⟩
theorem c_eqP {X : Cx} (hA : A.C = C) (M_eq : Mt X.prog X.w X.K X.mg X.base C 1 6 "__eq__" ["self", "other"] (spEqP C)) {n m : Nat} {r s : List (List Rat × Rat)} (q : R (.bl (decide (n = m) && decide (r = s)))) : OpD A (rEqV X C 6 7) (prog n r) (prog m s) R := by
  subst hA
  exact ce_V (own_V M_eq n m r s) (by decide) q
theorem c_eqN {X : Cx} (hA : A.C = C) (nf : ∀ x ∈ ["int", "tuple", "list", "NoneType", "str"], PySem.W.notFirst X.K (C 1).1 (.type x) = true) (M_eq : Mt X.prog X.w X.K X.mg X.base C 1 6 "__eq__" ["self", "other"] (spEqP C)) {n : Nat} {r : List (List Rat × Rat)} {e : D} (h : NoIns e) (h2 : ∀ b, e ≠ .bl b) (q : R (.bl false)) : OpD A (rEqV X C 6 7) (prog n r) e R := by
  subst hA
  exact ce_V (own_V0 nf M_eq n r h h2) (by decide) q
theorem c_neP {X : Cx} (hA : A.C = C) (M_eq : Mt X.prog X.w X.K X.mg X.base C 1 6 "__eq__" ["self", "other"] (spEqP C)) (ne1 : PySem.W.findIn X.K (.ref (C 1).1) "__ne__" = some (some (.builtin "object.__ne__"))) (ne2 : PySem.W.mroIn X.K (C 1).1 (.type "object") = some true) {n m : Nat} {r s : List (List Rat × Rat)}
    (q : R (.bl (!(decide (n = m) && decide (r = s))))) : OpD A (rNeQ X C 6 7) (prog n r) (prog m s) R := by
  subst hA
  exact cn_Q (own_Q M_eq n m r s) ne1 ne2 (by decide) q
/-- rows whose weights are tuples -/
def tupRow : D → D
  | .tup [.lst ws, b] => .tup [.tup ws, b]
  | d => d
theorem tup_rows {n : Nat} {rows : List D} (h : ∀ d ∈ rows, RowZ n d) : (rows.map tupRow).map rv = vs rows ∧ ∀ d ∈ rows.map tupRow, RowOk n d := by
  constructor
  · unfold vs
    rw [List.map_map]
    refine List.map_congr_left fun d hd => ?_
    obtain ⟨ws, b, rfl, _⟩ := (h d hd).ex
    rfl
  · intro d hd
    obtain ⟨e, he, rfl⟩ := List.mem_map.mp hd
    obtain ⟨ws, b, rfl, hl, hw, hb⟩ := (h e he).ex
    exact ⟨true, ws, b, rfl, hl, fun w h => (hw w h).1, hb.1⟩
def zrow (n : Nat) (c : Int) : D := .tup [.lst (List.replicate n [D.int 0]).flatten, .int c]
theorem flat_one (n : Nat) (d : D) : (List.replicate n [d]).flatten = List.replicate n d := by
  induction n with
  | zero => rfl
  | succ n ih => rw [List.replicate_succ, List.flatten_cons, ih, List.replicate_succ]; rfl
theorem zrow_z (n : Nat) {c : Int} (hc : c.natAbs < 4096) : RowZ n (zrow n c) := ⟨_, _, rfl, by rw [flat_one, List.length_replicate], fun w hw => by
  rw [flat_one] at hw
  rw [(List.mem_replicate.mp hw).2]
  exact nmz_int (by decide), nmz_int hc⟩
/-- ([0] * many, c), new -/
theorem n_zrow {i n : Nat} {c : Int} (hi : ρ[i]? = some (some (Sl.val (.int (n : Int))))) (n16 : n ≤ 16) (r : R (zrow n c)) : DN A ρ (tTup (tCons (tOp rRep (tLst (tCons (tC (.int 0)) tNil)) (tVar i)) (tCons (tC (.int c)) tNil))) R :=
  dn_tup <| dna_cons <| dn_df <| df_rep <| DF.de <| df_lst <| da_one <| w_int ⟨by show 1 ≤ sizeLine; decide, _, rfl, w_var hi ⟨n, rfl, by omega, by show 1 * n ≤ 100000; omega, fun d hd => by
    rw [flat_one] at hd
    rw [(List.mem_replicate.mp hd).2]
    rfl, dna_cons <| dn_leaf <| w_int ⟨rfl, dna_nil ⟨by show 2 ≤ sizeLine; decide, r⟩⟩⟩⟩
end
end K13
namespace K13
open PySem L2 GX GD KM
open Evl (Ex)
section
variable {P : Program} {w : World} {K : PySem.W.Frag} {mg : Str → Option Value} {base : Heap} {C : CT} {A : Amb} {ρ : Ro} {te : TE} {R : D → Prop}
abbrev sLPartsRight : Stmt := top 44
abbrev NsLPartsRight : List Str := ["_law_pot_here", "_law_many", "_law_rows_here", "_law_passed", "_law_weights", "_law_bound", "_law_shown_here", "_law_made", "_law_same", "_law_other", "_law_value"]
theorem csLPartsRight : FnScope NsLPartsRight ["_law_pot_here", "_law_many", "_law_rows_here"] (defScope sLPartsRight) := ⟨rfl, rfl, rfl, by decide +kernel, rfl, by decide +kernel, by decide +kernel⟩

theorem ok_pa (T : Txt K mg C) (Z : Cst K C) (MP : MkP P w K mg base C) (M1 : MkP0 P w K mg base C MP.f) (KB_mk : KBn K MP.fd ["self", "unknowns", "rows"] 1 ["rows", "unknowns"] (fun us ws => us ++ ws.reverse) swV) (M_rows : Mt P w K mg base C 1 1 "rows" ["self"] (spRws C))
    (M_get : Mt P w K mg base C 1 5 "__getitem__" ["self", "at"] (spGet C)) (M_eq : Mt P w K mg base C 1 6 "__eq__" ["self", "other"] (spEqP C)) (M_repr : MtG P w K mg base C 1 7 "__repr__" ["self"] (spReprP C)) (MR_ : Mt P w K mg base C 0 1 "__repr__" ["self"] (spRepr C))
    (fG : PySem.W.fnIn K M_get.f = true) (ne1 : PySem.W.findIn K (.ref (C 1).1) "__ne__" = some (some (.builtin "object.__ne__"))) (ne2 : PySem.W.mroIn K (C 1).1 (.type "object") = some true) (nf : ∀ x ∈ ["int", "tuple", "list", "NoneType", "str"], PySem.W.notFirst K (C 1).1 (.type x) = true)
    (LS : Dg P w K mg base 8 "_law_shown" ["_law_rows_here"] (spShown C)) (LI : Dg P w K mg base 10 "_law_is" ["_law_pot_here", "_law_program", "_law_many", "_law_rows_here"] (spIs C))
    {f : Addr} {fd : FuncData} (F : Fun K "_law_parts_right" "_law_parts_right" sLPartsRight f fd) : FnG P w K mg base CX0 11 f fd ["_law_pot_here", "_law_many", "_law_rows_here"] (spPa C) := by
  obtain ⟨mc, u1, u2, rd, v1, v2⟩ := Z.ex
  refine okG F csLPartsRight (spC_len fun ds h => by obtain ⟨n, rows, rfl, _⟩ := h; rfl) (fun cdv A outer s H vs_ Q E gd hr h => ⟨_, (pss_cons (ps_setLc (i := 3) (own := [("_law_weights", 4), ("_law_bound", 5)]) (g := gTup K 2 (gCons (gName 4) (gCons (gName 5) gNil))) (tt := tYes) rfl csLPartsRight.nd rfl rfl (sw_true rfl rfl rfl (by decide +kernel)) (pi_list (pv 2)) (blkOk_by (N := NsLPartsRight) (sc := defScope sLPartsRight) (by decide +kernel)) (fun _ _ _ _ _ => pg_tup (by rfl) (pgs_cons (pg_name (i := 4) csLPartsRight.nd rfl (.inl rfl)) (pgs_cons (pg_name (i := 5) csLPartsRight.nd rfl (.inl rfl)) pgs_nil))) (fun _ _ _ _ _ => pts_nil) (fun _ _ _ _ _ => by exact (pe_tup (pa_cons (pe_callTy (call_list_ofK K rfl) (by rfl) T.list (by decide +kernel) (pa_cons (pv 4) pa_nil)) (pa_cons (pv 5) pa_nil)))))
      (pss_cons (ps_set (i := 6) csLPartsRight.nd rfl (Or.inl rfl) (pe_callB (cr_reprX (C := C) (k := 1) gd hr) (by rfl) T.repr (by decide +kernel) (pa_cons (pv 3) pa_nil)))
      (pss_cons (ps_set (i := 7) csLPartsRight.nd rfl (Or.inr rfl) (pe_makeK0 MP.M MP.G (hr.mono (by decide)) (by rfl) T.mgProgram KB_mk pass0 (pk_cons (pv 3) (pk_cons (pv 1) pk_nil))))
      (pss_cons (ps_if (pt_cmpR op_ne (pe_callB (cr_reprX (C := C) (k := 1) gd hr) (by rfl) T.repr (by decide +kernel) (pa_cons (pv 3) pa_nil)) (pv 6) (nomark _)) (pss_one (ps_ret pe_bl)) pss_nil)
      (pss_cons (ps_expr (pe_bm PySem.F.plainAttrs_list PySem.F.slot_list_append PySem.F.type_list_append mt_append (pv 3) (pa_cons (pe_tup (pa_cons (pe_op op_rep (pe_lst (pa_cons pe_int pa_nil)) (pv 1)) (pa_cons pe_int pa_nil))) pa_nil)))
      (pss_cons (ps_for PassesOwn.never rfl (pi_list (pv 3)) (pg_tup (by rfl) (pgs_cons (pg_name (i := 4) csLPartsRight.nd rfl (.inl rfl)) (pgs_cons (pg_name (i := 5) csLPartsRight.nd rfl (.inl rfl)) pgs_nil))) (pss_one (ps_expr (pe_bm PySem.F.plainAttrs_list PySem.F.slot_list_append PySem.F.type_list_append mt_append (pv 4) (pa_cons pe_int pa_nil)))))
      (pss_cons (ps_for PassesOwn.never rfl (pi_list (pe_mt0 M_rows hr (pv 7))) (pg_tup (by rfl) (pgs_cons (pg_name (i := 4) csLPartsRight.nd rfl (.inl rfl)) (pgs_cons (pg_name (i := 5) csLPartsRight.nd rfl (.inl rfl)) pgs_nil))) (pss_one (ps_expr (pe_bm PySem.F.plainAttrs_list PySem.F.slot_list_append PySem.F.type_list_append mt_append (pv 4) (pa_cons pe_non pa_nil)))))
      (pss_cons (ps_expr (pe_bm PySem.F.plainAttrs_list PySem.F.slot_list_append PySem.F.type_list_append mt_append (pe_mt0 M_rows hr (pv 7)) (pa_cons pe_non pa_nil)))
      (pss_cons (ps_if (pt_cmpR (op_neN (C := C) hr) (pv 2) (pe_lst pa_nil) (nomark _)) (pss_one (ps_expr (pe_bm PySem.F.plainAttrs_list PySem.F.slot_list_append PySem.F.type_list_append mt_append (pe_ix ix_seq (pe_ixO M_get.F (hr.mono (by decide)) M_get.b M_get.m.at_ fG M_get.m.fn (pv 7) pe_int (fun _ _ => rfl) (E := E0)) pe_int (fun _ _ => rfl)) (pa_cons pe_non pa_nil)))) pss_nil)
      (pss_cons (ps_if (PW.pt (pw_or (pt_not (pt_val (pe_dg LI gd hr (pa_cons (pv 0) (pa_cons (pv 7) (pa_cons (pv 1) (pa_cons (pv 2) pa_nil))))))) (pw_or1 (pt_not (pt_val (pe_dg LI gd hr (pa_cons (pv 0) (pa_cons (pe_make MP.M MP.G (hr.mono (by decide)) (by rfl) T.mgProgram MP.b2 .nil pass0 (pa_cons (pv 1) (pa_cons (pe_callTy call_tuple_of (by rfl) T.tuple (by decide +kernel) (pa_cons (pv 2) pa_nil)) pa_nil))) (pa_cons (pv 1) (pa_cons (pv 2) pa_nil)))))))))) (pss_one (ps_ret pe_bl)) pss_nil)
      (pss_cons (ps_set (i := 8) csLPartsRight.nd rfl (Or.inl rfl) (pe_make MP.M MP.G (hr.mono (by decide)) (by rfl) T.mgProgram MP.b2 .nil pass0 (pa_cons (pv 1) (pa_cons (pe_lc (own := [("_law_weights", 4), ("_law_bound", 5)]) (g := gTup K 2 (gCons (gName 4) (gCons (gName 5) gNil))) (tt := tYes) rfl csLPartsRight.nd (pi_list (pv 2)) (blkOk_by (N := NsLPartsRight) (sc := defScope sLPartsRight) (by decide +kernel)) (fun _ _ _ _ _ => pg_tup (by rfl) (pgs_cons (pg_name (i := 4) csLPartsRight.nd rfl (.inl rfl)) (pgs_cons (pg_name (i := 5) csLPartsRight.nd rfl (.inl rfl)) pgs_nil))) (fun _ _ _ _ _ => pts_nil) (fun _ _ _ _ _ => by exact (pe_tup (pa_cons (pe_callTy (call_tuple_ofK K rfl) (by rfl) T.tuple (by decide +kernel) (pa_cons (pv 4) pa_nil)) (pa_cons (pv 5) pa_nil))))) pa_nil))))
      (pss_cons (ps_if (PW.pt (pw_or (pt_cmpR (op_neQ (C := C) (k := 6) (j := 7) (hr.mono (by decide))) (pv 8) (pv 7) (nomark _)) (pw_or (pt_not (pt_val (pe_dg LI gd hr (pa_cons (pv 0) (pa_cons (pv 8) (pa_cons (pv 1) (pa_cons (pv 2) pa_nil))))))) (pw_or1 (pt_not (pt_val (pe_dg LI gd hr (pa_cons (pv 0) (pa_cons (pe_make MP.M M1.F (hr.mono (by decide)) (by rfl) T.mgProgram M1.b1 M1.d1 pass0 (pa_cons (pv 1) pa_nil)) (pa_cons (pv 1) (pa_cons (pe_lst pa_nil) pa_nil))))))))))) (pss_one (ps_ret pe_bl)) pss_nil)
      (pss_cons (ps_for PassesOwn.never rfl (pi_list (pe_lst (pa_cons (pe_make MP.M M1.F (hr.mono (by decide)) (by rfl) T.mgProgram M1.b1 M1.d1 pass0 (pa_cons (pe_op op_add (pv 1) pe_int) pa_nil)) (pa_cons (pe_make MP.M MP.G (hr.mono (by decide)) (by rfl) T.mgProgram MP.b2 .nil pass0 (pa_cons (pv 1) (pa_cons (pe_op op_cat (pv 2) (pe_lst (pa_cons (pe_tup (pa_cons (pe_op op_rep (pe_lst (pa_cons pe_int pa_nil)) (pv 1)) (pa_cons pe_int pa_nil))) pa_nil))) pa_nil))) (pa_cons (pe_make MP.M MP.G (hr.mono (by decide)) (by rfl) T.mgProgram MP.b2 .nil pass0 (pa_cons (pv 1) (pa_cons (pe_op op_cat (pe_lst (pa_cons (pe_tup (pa_cons (pe_op op_rep (pe_lst (pa_cons pe_int pa_nil)) (pv 1)) (pa_cons pe_int pa_nil))) pa_nil)) (pv 2)) pa_nil))) pa_nil))))) (pg_name (i := 9) csLPartsRight.nd rfl (Or.inl rfl)) (pss_one (ps_if (PW.pt (pw_or (pt_cmpR (op_eqV (C := C) (k := 6) (j := 7) (hr.mono (by decide))) (pv 7) (pv 9) (nomark _)) (pw_or1 (pt_cmpR (op_eqV (C := C) (k := 6) (j := 7) (hr.mono (by decide))) (pv 9) (pv 7) (nomark _))))) (pss_one (ps_ret pe_bl)) pss_nil)))
      (pss_cons (ps_if (PW.pt (pw_and (pt_cmpR op_gt (pe_callB call_len_seq (by rfl) T.len PySem.boot_len (pa_cons (pv 2) pa_nil)) pe_int (nomark _)) (pw_and1 (pt_cmpR op_ne (pe_cmpR (op_eqV (C := C) (k := 6) (j := 7) (hr.mono (by decide))) (pv 7) (pe_make MP.M MP.G (hr.mono (by decide)) (by rfl) T.mgProgram MP.b2 .nil pass0 (pa_cons (pv 1) (pa_cons (pe_revL (pv 2)) pa_nil))) (nomark _)) (pe_cmpR op_eq (pe_dg LS gd hr (pa_cons (pv 2) pa_nil)) (pe_dg LS gd hr (pa_cons (pe_revL (pv 2)) pa_nil)) (nomark _)) (nomark _))))) (pss_one (ps_ret pe_bl)) pss_nil)
      (pss_cons (ps_if (pt_val (pe_callB (cr_any rfl) (by rfl) T.any (by decide +kernel) (pa_cons (pe_lc (own := [("_law_value", 10)]) (g := gName 10) (tt := tYes) rfl csLPartsRight.nd (pi_list (pe_lst (pa_cons pe_non (pa_cons (pv 2) (pa_cons (pe_tup (pa_cons (pv 1) (pa_cons (pv 2) pa_nil))) (pa_cons (pe_callB (cr_reprG gd M_repr.F (hr.mono (by decide)) M_repr.b M_repr.m.at_ M_repr.m.fn (E := E0)) (by rfl) T.repr (by decide +kernel) (pa_cons (pv 7) pa_nil)) (pa_cons (pv 1) pa_nil))))))) (blkOk_by (N := NsLPartsRight) (sc := defScope sLPartsRight) (by decide +kernel)) (fun _ _ _ _ _ => pg_name (i := 10) csLPartsRight.nd rfl (Or.inl rfl)) (fun _ _ _ _ _ => pts_nil) (fun _ _ _ _ _ => by exact (pe_cmpR (op_eqVof (X' := (cxOf CX0 P w K mg base NsLPartsRight (Str.ofString "_law_parts_right") (defScope sLPartsRight) f cdv A outer s H E).nox) rfl rfl rfl rfl rfl (C := C) (k := 6) (j := 7) (hr.mono (by decide))) (pv 7) (pv 10) (nomark _)))) pa_nil))) (pss_one (ps_ret pe_bl)) pss_nil)
      (pss_cons (ps_if (PW.pt (pw_or (pt_cmpR (op_eqV (C := C) (k := 6) (j := 7) (hr.mono (by decide))) (pe_make MP.M M1.F (hr.mono (by decide)) (by rfl) T.mgProgram M1.b1 M1.d1 pass0 (pa_cons pe_int pa_nil)) (pe_make MP.M M1.F (hr.mono (by decide)) (by rfl) T.mgProgram M1.b1 M1.d1 pass0 (pa_cons pe_int pa_nil)) (nomark _)) (pw_or (pt_cmpR (op_eqV (C := C) (k := 6) (j := 7) (hr.mono (by decide))) (pe_make MP.M M1.F (hr.mono (by decide)) (by rfl) T.mgProgram M1.b1 M1.d1 pass0 (pa_cons (pv 1) pa_nil)) (pe_make MP.M M1.F (hr.mono (by decide)) (by rfl) T.mgProgram M1.b1 M1.d1 pass0 (pa_cons (pe_op op_add (pv 1) pe_int) pa_nil)) (nomark _)) (pw_or1 (pt_cmpR (op_neQ (C := C) (k := 6) (j := 7) (hr.mono (by decide))) (pe_make MP.M M1.F (hr.mono (by decide)) (by rfl) T.mgProgram M1.b1 M1.d1 pass0 (pa_cons (pv 1) pa_nil)) (pe_make MP.M MP.G (hr.mono (by decide)) (by rfl) T.mgProgram MP.b2 .nil pass0 (pa_cons (pv 1) (pa_cons (pe_tup pa_nil) pa_nil))) (nomark _)))))) (pss_one (ps_ret pe_bl)) pss_nil)
      (pss_one (ps_ret (pe_cmpR (op_eqD hr.units) (pe_lst (pa_cons (ClX.pe_cval (pe_glob (v := .ref (C 1).1) (by rfl) T.mgProgram rfl)) (pa_cons (ClX.pe_cval (pe_glob (v := .ref (C 1).1) (by rfl) T.mgProgram rfl)) pa_nil))) (pe_lst (pa_cons pe_int (pa_cons pe_int pa_nil))) (nomark _)))))))))))))))))))), spC_run h fun p ds hp => ?_⟩)
  obtain ⟨n, rows, rfl, n1, n4, rl, hz⟩ := hp
  have h0 : roC NsLPartsRight [.int (n : Int), .lst rows] = [some .pot, some (.val (.int (n : Int))), some (.val (.lst rows)), none, none, none, none, none, none, none, none] := rfl
  rw [h0]
  have two : 2 ≤ sizeLine := by decide
  have hZ : RowsZ n rows := ⟨by omega, hz⟩
  have hv := vs_len rows
  obtain ⟨ts, sh, tl, tz⟩ := shw_drawn (own := OwnR (cxOf CX0 P w K mg base NsLPartsRight (Str.ofString "_law_parts_right") (defScope sLPartsRight) f cdv A outer s H E).nox C 1) (n := n) (by omega) (fun r hr => own_rp hr MR_) hz
  have shp := Shw.lst sh (big_line (Nat.le_trans (lst_le (c := 123309) (n := 8) tz (by omega)) (by decide)))
  have dp : dep (.lst rows) ≤ 3 := by have := dep_drawn hz; rw [dep]; omega
  -- passed
  refine ds_setX (i := 3) (by show 3 < 11; decide) <| dn_lc (l := false) (js := [4, 5]) (fun _ i es => es = rows.take i) <| di_list <| w_var rfl ⟨_, rfl, ⟨Nat.le_trans rl (by decide), rfl, fun i d es hd he _ => ?_, fun es he => ?_⟩⟩
  · obtain ⟨ws, b, rfl, wl, hw, hb⟩ := (hz d (List.mem_of_getElem? hd)).ex
    refine ⟨_, dg_tup2, dt_yes ⟨fun _ => ?_, fun z => nomatch z⟩⟩
    refine dn_tup <| dna_cons <| dn_df <| f_list <| dl_val rfl ⟨false, ws, rfl, fun d hd => (hw d hd).1.leaf, fun d hd => (hw d hd).1.leaf, dna_cons <| dn_leaf <| w_var rfl ⟨hb.1.leaf, dna_nil ⟨two, ?_⟩⟩⟩
    rw [he, List.take_add_one, hd]
    rfl
  rw [List.take_length] at he
  rw [he]
  clear he es
  have rp : ∀ {ρ : Ro} {R : D → Prop} {j : Nat}, 7 ≤ j → ρ[3]? = some (some (.arg (.lst rows))) → R (.str (listText ts)) → DE ⟨C, PotW, some p⟩ ρ (tCB (rRpX (cxOf CX0 P w K mg base NsLPartsRight (Str.ofString "_law_parts_right") (defScope sLPartsRight) f cdv A outer s H E).nox C 1 j) (tCons (tVar 3) tNil)) R := fun hj h r =>
    l_repr rfl <| dl_arg h ⟨_, shp, by omega, r⟩
  refine dsx_set (j := 6) (by decide) (vp_of rfl) rfl <| rp (by decide) rfl ?_
  refine dsx_set (j := 7) (by decide) (vp_of rfl) rfl <| c_mkPK T rfl <| dla_cons <| dl_arg rfl <| dla_cons <| dl_val rfl <| dla_nil ⟨n, false, rows, rfl, ⟨n, false, rows, rfl, n1, by omega, by omega, fun d hd => (hz d hd).ok⟩, ?_⟩
  refine dsx_ifs (vp_of rfl) rfl <| dt_test <| w_op <| rp (by decide) rfl <| w_var rfl <| st_ne ⟨no2, fun _ => dsx_nexts ?_⟩
  -- what was passed and what is told is changed
  have pz : ∀ d ∈ rows ++ [zrow n 1], GD.Pr d := fun d hd => by
    rcases List.mem_append.mp hd with hd | hd
    · obtain ⟨ws, b, rfl, wl, _⟩ := (hz d hd).ex
      exact ⟨ws, b, rfl, by omega⟩
    · cases List.mem_singleton.mp hd
      exact ⟨_, _, rfl, by rw [flat_one, List.length_replicate]; omega⟩
  have pt : ∀ d ∈ (vs rows).map trow, GD.Pr d := fun d hd => by
    obtain ⟨r, hr, rfl⟩ := List.mem_map.mp hd
    obtain ⟨e, he, rfl⟩ := List.mem_map.mp hr
    obtain ⟨ws, b, rfl, wl, _⟩ := (hz e he).ex
    exact ⟨_, _, rfl, by
      show (((ws.map vl, vl b) : List Rat × Rat).1.map rt).length ≤ 1000
      simp
      omega⟩
  refine dsx_app (vp_of rfl) rfl (by omega) <| n_zrow rfl (by omega) ?_
  refine dsx_for (j := 4) (k := 5) (by decide) (by show 4 < 11; decide) (vp_of rfl) rfl (by simp; omega) pz ?_
  refine ds_forN (i := 3) (j := 4) (k := 5) (by decide) (by show 4 < 11; decide) (vp_of rfl) rfl <| c_rws (rows := vs rows) rfl (no_rws T) rfl (by omega) ⟨_, rfl, by rw [List.length_map]; omega, pt, ?_⟩
  refine ds_appN (i := 3) (vp_of rfl) rfl <| c_rws (rows := vs rows) rfl (no_rws T) rfl (by omega) ⟨_, rfl, by rw [List.length_map]; omega, ?_⟩
  refine ds_ifsM (dt_test <| w_op <| w_var rfl <| de_lst <| da_nil ⟨Nat.zero_le _, cn_N ⟨_, rfl, fun hne => ?_⟩⟩) ?_
  · have hne : rows.length ≠ 0 := by simpa using hne
    have h1 : (vs rows)[0]? = some (vs rows)[0] := List.getElem?_eq_getElem (by omega)
    refine ds_appN1 (i := 3) (vp_of rfl) rfl <| dn_ix (n := 0) <| n_get0 (k := 0) rfl rfl h1 ⟨_, rfl, _, rfl, _, rfl, ?_, rfl⟩
    have := pt (trow (vs rows)[0]) (List.mem_map.mpr ⟨_, List.getElem_mem _, rfl⟩)
    obtain ⟨es, x, e, hl⟩ := this
    cases e
    exact hl
  -- the same
  show DS _ [some .pot, some (.val (.int (n : Int))), some (.val (.lst rows)), none, none, none, some (.val (.str (listText ts))), some (.val (prog n (vs rows))), none, none, none] _ _
  refine ds_ifs <| dt_or <| dt_not <| dt_B <| c_is rfl rfl rfl n1 (by omega) (by omega) hz ⟨true, rfl, no1, fun _ => ?_⟩ (w_cons <| w_var rfl <| w_cons <| w_var rfl <| da_one <| w_var rfl rfl)
  refine dt_not <| dt_B <| c_is rfl rfl rfl n1 (by omega) (by omega) hz ⟨true, rfl, no1, fun _ => ds_nexts ?_⟩ (w_cons <| c_mkP T rfl <| dla_cons <| dl_val rfl <| dla_cons <| dl_de <| de_cb <| da_one <| w_var rfl <| ca_tuple (.inl rfl) <| dla_nil ⟨n, true, rows, rfl, ⟨n, true, rows, rfl, n1, by omega, by omega, fun d hd => (hz d hd).ok⟩, w_cons <| w_var rfl <| da_one <| w_var rfl rfl⟩)
  obtain ⟨tr1, tr2⟩ := tup_rows hz
  refine ds_set <| c_mkP T rfl <| dla_cons <| dl_val rfl <| dla_cons <| dl_de <| DF.de <| df_map (l := false) (js := [4, 5]) tupRow <| di_list <| w_var rfl ⟨_, rfl, by omega, fun i d hd => ?_, ?_⟩
  · obtain ⟨ws, b, rfl, wl, hw, hb⟩ := (hz d (List.mem_of_getElem? hd)).ex
    exact ⟨_, dg_tup2, de_tup <| w_cons <| e_tuple <| dl_val rfl ⟨false, ws, rfl, fun d hd => (hw d hd).1.leaf, da_one <| w_var rfl ⟨two, rfl⟩⟩⟩
  refine dla_nil ⟨n, false, rows.map tupRow, rfl, ⟨n, false, rows.map tupRow, rfl, n1, by omega, by rw [List.length_map]; omega, tr2⟩, ?_⟩
  rw [tr1]
  have dd : (decide (n = n) && decide (vs rows = vs rows)) = true := by simp
  refine ds_ifs <| dt_or <| dt_test <| w_op <| w_var rfl <| w_var rfl <| c_neP rfl M_eq ne1 ne2 ⟨_, rfl, fun z => ?_, fun _ => ?_⟩
  · exact absurd z (by rw [dd]; decide)
  refine dt_or <| dt_not <| dt_B <| c_is rfl rfl rfl n1 (by omega) (by omega) hz ⟨true, rfl, no1, fun _ => ?_⟩ (w_cons <| w_var rfl <| w_cons <| w_var rfl <| da_one <| w_var rfl rfl)
  refine dt_not <| dt_B <| c_is (rows := []) rfl rfl rfl n1 (by omega) (by decide) nofun ⟨true, rfl, no1, fun _ => ds_nexts ?_⟩ (w_cons <| c_mk0 T rfl <| w_var rfl ⟨n, rfl, n1, by omega, w_cons <| w_var rfl <| da_one <| DF.de <| df_lst <| da_nil ⟨Nat.zero_le _, rfl⟩⟩)
  -- others
  have zz : ∀ (c : Int), c.natAbs < 4096 → (∀ d ∈ rows ++ [zrow n c], RowZ n d) ∧ ∀ d ∈ [zrow n c] ++ rows, RowZ n d := fun c hc => ⟨fun d hd => by
    rcases List.mem_append.mp hd with hd | hd
    · exact hz d hd
    · cases List.mem_singleton.mp hd; exact zrow_z n hc, fun d hd => by
    rcases List.mem_append.mp hd with hd | hd
    · cases List.mem_singleton.mp hd; exact zrow_z n hc
    · exact hz d hd⟩
  refine ds_fors (l := false) (js := [9]) (fun _ i ρ' => ∃ x : Option Sl, ρ' = [some .pot, some (.val (.int (n : Int))), some (.val (.lst rows)), none, none, none, some (.val (.str (listText ts))), some (.val (prog n (vs rows))), some (.val (prog n (vs rows))), x, none]) <|
    di_list <| de_lst <| w_cons <| c_mk0 T rfl <| w_op <| w_var rfl <| w_int <| oi_I0 (k := (· + ·)) rfl ⟨n + 1, by simp, by omega, by omega, w_cons <| c_mkP T rfl <| dla_cons <| dl_val rfl <| dla_cons <| dl_de <| w_op <| w_var rfl <| de_lst <| da_one <| DN.de <| n_zrow rfl (by omega) ⟨by show 1 ≤ sizeLine; decide, oc_lst (big_line (by simp; omega)) <|
      dla_nil ⟨n, false, rows ++ [zrow n 3], rfl, ⟨n, false, rows ++ [zrow n 3], rfl, n1, by omega, by simp; omega, fun d hd => ((zz 3 (by decide)).1 d hd).ok⟩, da_one <| c_mkP T rfl <| dla_cons <| dl_val rfl <| dla_cons <| dl_de <| w_op <| de_lst <| da_one <| DN.de <| n_zrow rfl (by omega) ⟨by show 1 ≤ sizeLine; decide, w_var rfl <| oc_lst (big_line (by simp; omega)) <|
      dla_nil ⟨n, false, [zrow n 4] ++ rows, rfl, ⟨n, false, [zrow n 4] ++ rows, rfl, n1, by omega, by simp; omega, fun d hd => ((zz 4 (by decide)).2 d hd).ok⟩, by show 3 ≤ sizeLine; decide, _, rfl, ⟨none, rfl⟩, ?_, ?_⟩⟩⟩⟩⟩
  · rintro i d ρ' hd ⟨x, rfl⟩
    obtain ⟨m, r2, rfl, hne⟩ : ∃ (m : Nat) (r2 : List (List Rat × Rat)), d = prog m r2 ∧ ¬ (n = m ∧ vs rows = r2) := by
      have hl : ∀ r2 : List (List Rat × Rat), r2.length = rows.length + 1 → ¬ (n = n ∧ vs rows = r2) := fun r2 h1 h2 => by
        have := congrArg List.length h2.2
        omega
      have hm := List.mem_of_getElem? hd
      simp only [List.mem_cons, List.not_mem_nil, or_false] at hm
      rcases hm with rfl | rfl | rfl
      · exact ⟨n + 1, [], rfl, fun z => by omega⟩
      · exact ⟨n, _, rfl, hl _ (by simp)⟩
      · exact ⟨n, _, rfl, hl _ (by simp)⟩
    refine ⟨_, dg_name, ds_if <| dt_or <| dt_test <| w_op <| w_var rfl <| w_var rfl <| c_eqP rfl M_eq ⟨_, rfl, fun z => ?_, fun _ => dt_test <| w_op <| w_var rfl <| w_var rfl <| c_eqP rfl M_eq ⟨_, rfl, fun z => ?_, fun _ => ds_next ⟨_, rfl⟩⟩⟩⟩
    · rw [Bool.and_eq_true, decide_eq_true_eq, decide_eq_true_eq] at z
      exact absurd z hne
    · rw [Bool.and_eq_true, decide_eq_true_eq, decide_eq_true_eq] at z
      exact absurd ⟨z.1.symm, z.2.symm⟩ hne
  rintro ρ' ⟨x, rfl⟩
  have hr2 : ∀ d ∈ rows.reverse, RowZ n d := fun d hd => hz d (List.mem_reverse.mp hd)
  have hZ2 : RowsZ n rows.reverse := ⟨by rw [List.length_reverse]; omega, hr2⟩
  -- the other way about
  refine ds_ifsF (dt_and <| dt_test <| w_op <| l_len <| dl_val rfl ⟨false, rows, rfl, w_int <| ob_I0 (k := fun i j => decide (j < i)) rfl ⟨_, rfl, fun _ => rfl, fun _ => dt_test <| w_op <| w_op <| w_var rfl <| c_mkP T rfl <| dla_cons <| dl_val rfl <| dla_cons <| dl_de <| w_revL <| w_var rfl ⟨_, rfl, dla_nil ⟨n, false, rows.reverse, rfl, ⟨n, false, rows.reverse, rfl, n1, by omega, by rw [List.length_reverse]; omega, fun d hd => (hr2 d hd).ok⟩, c_eqP rfl M_eq <| w_op <| c_shownL rfl rfl hZ (by omega) <| c_shownD rfl <| w_revL <| w_var rfl ⟨_, rfl, n, rows.reverse, rfl, hZ2, by omega, od_eq rfl <| od_ne rfl ⟨_, rfl, ?_⟩⟩⟩⟩⟩⟩) ?_
  · by_cases hq : vs rows = vs rows.reverse
    · have h1 : (decide (n = n) && decide (vs rows = vs rows.reverse)) = true := by simp [hq]
      have h2 : decide (rowsT (vs rows) = rowsT (vs rows.reverse)) = true := by rw [← hq]; simp
      show (!((decide (n = n) && decide (vs rows = vs rows.reverse)) == decide (rowsT (vs rows) = rowsT (vs rows.reverse)))) = false
      rw [h1, h2]
      rfl
    · have h1 : (decide (n = n) && decide (vs rows = vs rows.reverse)) = false := by simp [hq]
      have h2 : decide (rowsT (vs rows) = rowsT (vs rows.reverse)) = false := decide_eq_false fun z => hq (rowsT_inj (vs_sz hZ).2 (vs_sz hZ2).2 (by rw [vs_len, vs_len, List.length_reverse]) z)
      show (!((decide (n = n) && decide (vs rows = vs rows.reverse)) == decide (rowsT (vs rows) = rowsT (vs rows.reverse)))) = false
      rw [h1, h2]
      rfl
  -- any value
  refine ds_ifsF (dt_B <| w_anyB <| df_map (l := false) (js := [10]) (fun _ => .bl false) <| di_list <| de_lst <| w_cons <| w_non <| w_cons <| w_var rfl <| w_cons <| de_tup <| w_cons <| w_var rfl <| da_one <| w_var rfl ⟨two, w_cons <| c_reprP rfl rfl (by omega) (by omega) ((vs_sz hZ).1.mono (show 12 ≤ 1900 by decide)) (vs_sz hZ).2 <| da_one <| w_var rfl ⟨by show 5 ≤ sizeLine; decide, _, rfl, by show 5 ≤ 100000; decide, fun i d hd => ?_, ⟨[false, false, false, false, false], rfl, _, rfl, rfl⟩⟩⟩) ?_
  · have hm := List.mem_of_getElem? hd
    have hx : NoIns d ∧ ∀ b, d ≠ .bl b := by
      simp only [List.mem_cons, List.not_mem_nil, or_false] at hm
      rcases hm with rfl | rfl | rfl | rfl | rfl <;> exact ⟨fun _ _ => nofun, fun _ => nofun⟩
    exact ⟨_, dg_name, w_op <| w_var rfl <| w_var rfl <| c_eqN rfl nf M_eq hx.1 hx.2 rfl⟩
  refine ds_ifsF (dt_or <| dt_test <| w_op <| c_mk0 T rfl <| w_int ⟨1, rfl, by decide, by decide, c_mk0 T rfl <| w_int ⟨2, rfl, by decide, by decide, c_eqP rfl M_eq ⟨_, rfl, fun z => absurd z (by decide), fun _ => dt_or <| dt_test <| w_op <| c_mk0 T rfl <| w_var rfl ⟨n, rfl, n1, by omega, c_mk0 T rfl <| w_op <| w_var rfl <| w_int <| oi_I0 (k := (· + ·)) rfl ⟨n + 1, by simp, by omega, by omega, c_eqP rfl M_eq ⟨_, rfl, fun z => ?_, fun _ => ?_⟩⟩⟩⟩⟩⟩) ?_
  · rw [Bool.and_eq_true, decide_eq_true_eq, decide_eq_true_eq] at z
    exact absurd z.1 (by omega)
  · exact dt_test <| w_op <| c_mk0 T rfl <| w_var rfl ⟨n, rfl, n1, by omega, c_mkP T rfl <| dla_cons <| dl_val rfl <| dla_cons <| dl_de <| de_tup <| da_nil ⟨Nat.zero_le _, dla_nil ⟨n, true, [], rfl, ⟨n, true, [], rfl, n1, by omega, by decide, nofun⟩, c_neP rfl M_eq ne1 ne2 ⟨_, rfl, by simp⟩⟩⟩⟩
  have pd : ∀ i j : Int, SeqAt.shaped (PyData.list [.int i, .int j]) = true := fun i j => by
    unfold SeqAt.shaped
    simp [PyData.canLay0, PyData.canLayAll0, PyData.depth, PyData.depthAll]
  exact ds_ret <| w_op <| de_lst <| w_cons <| w_cval rd v1 <| da_one <| w_cval rd v2 ⟨two, de_lst <| w_cons <| w_int <| da_one <| w_int ⟨two, ce_D (.lst (.cons (.int _) (.cons (.int _) .nil))) (.lst (.cons (.int _) (.cons (.int _) .nil))) (pd 16 24) (pd 16 24) (by
    show D.bl _ = .bl true
    rw [SeqAt.eqv_refl _ (canLay_sh (pd 16 24))])⟩⟩
end
end K13
namespace K13
open PySem L2 GX GD KM
open Evl (Ex)
/-! ### what the top has written -/
theorem kit_ref {K : PySem.W.Frag} {C : Addr} {t : Value} {b : Bool} (ht : (t == Value.ref C) = false) (ic : PySem.W.isClsIn K C = true) (ty : PySem.W.typeIn K (.ref C) = some (.type "type")) (s : PySem.W.subIn K t (.ref C) = some b) : PySem.W.kitOne K t (.ref C) = some b := by
  unfold PySem.W.kitOne PySem.W.kitCls
  have ic' : (PySem.W.clsIn K C).isSome = true := ic
  rw [ht]
  show (if ((PySem.W.clsIn K C).isSome && PySem.W.typeIn K (.ref C) == some (.type "type")) = true then PySem.W.subIn K t (.ref C) else none) = some b
  rw [ic', ty]
  exact s
theorem kit_same {K : PySem.W.Frag} {C : Addr} : PySem.W.kitOne K (.ref C) (.ref C) = some true := by
  unfold PySem.W.kitOne
  rw [if_pos (beq_self_eq_true _)]
theorem kit_int {K : PySem.W.Frag} {C : Addr} {b : Bool} (ht : (Value.ref C == Value.type "int") = false) (s : PySem.W.subIn K (.ref C) (.type "int") = some b) : PySem.W.kitOne K (.ref C) (.type "int") = some b := by
  unfold PySem.W.kitOne PySem.W.kitCls
  have hm : PySem.W.kitMeta "int" = true := by decide +kernel
  rw [ht]
  show (if PySem.W.kitMeta "int" = true then PySem.W.subIn K (.ref C) (.type "int") else none) = some b
  rw [hm]
  exact s
theorem first_of {K : PySem.W.Frag} {C : Addr} {t : Value} (s : PySem.W.subIn K t (.ref C) = some false) : PySem.W.notFirst K C t = true := by
  unfold PySem.W.notFirst
  rw [s]
  simp
theorem vals_rev : ∀ {vs : List V} {us : List Value}, Vals vs us → Vals vs.reverse us.reverse
  | _, _, .nil => .nil
  | _, _, .cons h r => by
    rw [List.reverse_cons, List.reverse_cons]
    exact (vals_rev r).append (.cons h .nil)
theorem all_mk {l : PySem.W.OpenLaw} {w : World} {K : PySem.W.Frag} {h : Heap} {mg : Str → Option Value} {fa : Addr} (X : K.In h) (G : h.Ns mainGlobals mg) (hfa : mg "law" = some (.ref fa))
    {C B fini Tini fpin Tpin a0 fisI fisC fisL fipb fisN fchk fasR faRs farN fprd fisr fchr fdra fpic flow fpai fplu ftim fdot fnum flrw fsho fpot flis fpar fcha frig flaw fadd fmul fequ frep fprw fpln fpgt fpad fpwo fpwb fpsu fpeq fprp fpck ptop ftop pbot fbot punk funk frm : Addr}
    {ocT ocU ocisI kVisI dcisI pmisI cdisI ctisI ocisC kVisC dcisC pmisC cdisC ctisC ocisL kVisL dcisL pmisL cdisL ctisL ocipb kVipb dcipb pmipb cdipb ctipb ocisN kVisN dcisN pmisN cdisN ctisN occhk kVchk dcchk pmchk cdchk ctchk ocasR kVasR dcasR pmasR cdasR ctasR ocaRs kVaRs dcaRs pmaRs cdaRs ctaRs ocarN kVarN dcarN pmarN cdarN ctarN ocprd kVprd dcprd pmprd cdprd ctprd ocisr kVisr dcisr pmisr cdisr ctisr occhr kVchr dcchr pmchr cdchr ctchr ocdra kVdra dcdra pmdra cddra ctdra ocpic kVpic dcpic pmpic cdpic ctpic oclow kVlow dclow pmlow cdlow ctlow ocpai kVpai dcpai pmpai cdpai ctpai ocplu kVplu dcplu pmplu cdplu ctplu octim kVtim dctim pmtim cdtim cttim ocdot kVdot dcdot pmdot cddot ctdot ocnum kVnum dcnum pmnum cdnum ctnum oclrw kVlrw dclrw pmlrw cdlrw ctlrw ocsho kVsho dcsho pmsho cdsho ctsho ocpot kVpot dcpot pmpot cdpot ctpot oclis kVlis dclis pmlis cdlis ctlis ocpar kVpar dcpar pmpar cdpar ctpar occha kVcha dccha pmcha cdcha ctcha ocrig kVrig dcrig pmrig cdrig ctrig oclaw kVlaw dclaw pmlaw cdlaw ctlaw ocadd kVadd dcadd pmadd cdadd ctadd ocmul kVmul dcmul pmmul cdmul ctmul ocequ kVequ dcequ pmequ cdequ ctequ ocrep kVrep dcrep pmrep cdrep ctrep ocprw kVprw dcprw pmprw cdprw ctprw ocpln kVpln dcpln pmpln cdpln ctpln ocpgt kVpgt dcpgt pmpgt cdpgt ctpgt ocpad kVpad dcpad pmpad cdpad ctpad ocpwo kVpwo dcpwo pmpwo cdpwo ctpwo ocpwb kVpwb dcpwb pmpwb cdpwb ctpwb ocpsu kVpsu dcpsu pmpsu cdpsu ctpsu ocpeq kVpeq dcpeq pmpeq cdpeq ctpeq ocprp kVprp dcprp pmprp cdprp ctprp ocpck kVpck dcpck pmpck cdpck ctpck octop kVtop dctop pmtop cdtop cttop ocbot kVbot dcbot pmbot cdbot ctbot ocunk kVunk dcunk pmunk cdunk ctunk ocini kVini dcini pmini cdini ctini ocpin kVpin dcpin pmpin cdpin ctpin : Value}
    {odT odU od0 odisI anisI odisC anisC odisL anisL odipb anipb odisN anisN odchk anchk odasR anasR odaRs anaRs odarN anarN odprd anprd odisr anisr odchr anchr oddra andra odpic anpic odlow anlow odpai anpai odplu anplu odtim antim oddot andot odnum annum odlrw anlrw odsho ansho odpot anpot odlis anlis odpar anpar odcha ancha odrig anrig odlaw anlaw odadd anadd odmul anmul odequ anequ odrep anrep odprw anprw odpln anpln odpgt anpgt odpad anpad odpwo anpwo odpwb anpwb odpsu anpsu odpeq anpeq odprp anprp odpck anpck odtop antop odbot anbot odunk anunk odini anini odpin anpin : Option Addr}
    {slT slU sl0 slisI slisC slisL slipb slisN slchk slasR slaRs slarN slprd slisr slchr sldra slpic sllow slpai slplu sltim sldot slnum sllrw slsho slpot sllis slpar slcha slrig sllaw sladd slmul slequ slrep slprw slpln slpgt slpad slpwo slpwb slpsu slpeq slprp slpck sltop slbot slunk slini slpin : Array (Option Value)}
    {rstop rsbot rsunk : List Value} {tkT tkU tkR : Tok} {nT nU n0 : Nat} {fomu romu : Option Value}
    (aC : PySem.W.nsIn K mainGlobals "Ratio" = some (some (.ref C)))
    (aB : PySem.W.nsIn K mainGlobals "Program" = some (some (.ref B)))
    (aisI : PySem.W.nsIn K mainGlobals "is_integer" = some (some (.ref fisI)))
    (lisI : K.lookup fisI = some ⟨ocisI, odisI, .func (PySem.W.fnOf "is_integer" "is_integer" (defArgs sIsInteger) (defBody sIsInteger) (defScope sIsInteger) .none kVisI dcisI pmisI anisI cdisI ctisI), slisI⟩)
    (cisI : PySem.W.codeIn K cdisI "is_integer" = true)
    (kisI : PySem.W.keepIn K (.ref fisI) = true)
    (aisC : PySem.W.nsIn K mainGlobals "is_count" = some (some (.ref fisC)))
    (lisC : K.lookup fisC = some ⟨ocisC, odisC, .func (PySem.W.fnOf "is_count" "is_count" (defArgs sIsCount) (defBody sIsCount) (defScope sIsCount) .none kVisC dcisC pmisC anisC cdisC ctisC), slisC⟩)
    (cisC : PySem.W.codeIn K cdisC "is_count" = true)
    (kisC : PySem.W.keepIn K (.ref fisC) = true)
    (aisL : PySem.W.nsIn K mainGlobals "is_list" = some (some (.ref fisL)))
    (lisL : K.lookup fisL = some ⟨ocisL, odisL, .func (PySem.W.fnOf "is_list" "is_list" (defArgs sIsList) (defBody sIsList) (defScope sIsList) .none kVisL dcisL pmisL anisL cdisL ctisL), slisL⟩)
    (cisL : PySem.W.codeIn K cdisL "is_list" = true)
    (kisL : PySem.W.keepIn K (.ref fisL) = true)
    (aipb : PySem.W.nsIn K mainGlobals "is_place_below" = some (some (.ref fipb)))
    (lipb : K.lookup fipb = some ⟨ocipb, odipb, .func (PySem.W.fnOf "is_place_below" "is_place_below" (defArgs sIsPlaceBelow) (defBody sIsPlaceBelow) (defScope sIsPlaceBelow) .none kVipb dcipb pmipb anipb cdipb ctipb), slipb⟩)
    (cipb : PySem.W.codeIn K cdipb "is_place_below" = true)
    (kipb : PySem.W.keepIn K (.ref fipb) = true)
    (aisN : PySem.W.nsIn K mainGlobals "is_number" = some (some (.ref fisN)))
    (lisN : K.lookup fisN = some ⟨ocisN, odisN, .func (PySem.W.fnOf "is_number" "is_number" (defArgs sIsNumber) (defBody sIsNumber) (defScope sIsNumber) .none kVisN dcisN pmisN anisN cdisN ctisN), slisN⟩)
    (cisN : PySem.W.codeIn K cdisN "is_number" = true)
    (kisN : PySem.W.keepIn K (.ref fisN) = true)
    (achk : PySem.W.nsIn K mainGlobals "check_number" = some (some (.ref fchk)))
    (lchk : K.lookup fchk = some ⟨occhk, odchk, .func (PySem.W.fnOf "check_number" "check_number" (defArgs sCheckNumber) (defBody sCheckNumber) (defScope sCheckNumber) .none kVchk dcchk pmchk anchk cdchk ctchk), slchk⟩)
    (cchk : PySem.W.codeIn K cdchk "check_number" = true)
    (kchk : PySem.W.keepIn K (.ref fchk) = true)
    (aasR : PySem.W.nsIn K mainGlobals "as_ratio" = some (some (.ref fasR)))
    (lasR : K.lookup fasR = some ⟨ocasR, odasR, .func (PySem.W.fnOf "as_ratio" "as_ratio" (defArgs sAsRatio) (defBody sAsRatio) (defScope sAsRatio) .none kVasR dcasR pmasR anasR cdasR ctasR), slasR⟩)
    (casR : PySem.W.codeIn K cdasR "as_ratio" = true)
    (kasR : PySem.W.keepIn K (.ref fasR) = true)
    (aaRs : PySem.W.nsIn K mainGlobals "as_ratios" = some (some (.ref faRs)))
    (laRs : K.lookup faRs = some ⟨ocaRs, odaRs, .func (PySem.W.fnOf "as_ratios" "as_ratios" (defArgs sAsRatios) (defBody sAsRatios) (defScope sAsRatios) .none kVaRs dcaRs pmaRs anaRs cdaRs ctaRs), slaRs⟩)
    (caRs : PySem.W.codeIn K cdaRs "as_ratios" = true)
    (kaRs : PySem.W.keepIn K (.ref faRs) = true)
    (aarN : PySem.W.nsIn K mainGlobals "are_numbers" = some (some (.ref farN)))
    (larN : K.lookup farN = some ⟨ocarN, odarN, .func (PySem.W.fnOf "are_numbers" "are_numbers" (defArgs sAreNumbers) (defBody sAreNumbers) (defScope sAreNumbers) .none kVarN dcarN pmarN anarN cdarN ctarN), slarN⟩)
    (carN : PySem.W.codeIn K cdarN "are_numbers" = true)
    (karN : PySem.W.keepIn K (.ref farN) = true)
    (aprd : PySem.W.nsIn K mainGlobals "products" = some (some (.ref fprd)))
    (lprd : K.lookup fprd = some ⟨ocprd, odprd, .func (PySem.W.fnOf "products" "products" (defArgs sProducts) (defBody sProducts) (defScope sProducts) .none kVprd dcprd pmprd anprd cdprd ctprd), slprd⟩)
    (cprd : PySem.W.codeIn K cdprd "products" = true)
    (kprd : PySem.W.keepIn K (.ref fprd) = true)
    (aisr : PySem.W.nsIn K mainGlobals "is_row" = some (some (.ref fisr)))
    (lisr : K.lookup fisr = some ⟨ocisr, odisr, .func (PySem.W.fnOf "is_row" "is_row" (defArgs sIsRow) (defBody sIsRow) (defScope sIsRow) .none kVisr dcisr pmisr anisr cdisr ctisr), slisr⟩)
    (cisr : PySem.W.codeIn K cdisr "is_row" = true)
    (kisr : PySem.W.keepIn K (.ref fisr) = true)
    (achr : PySem.W.nsIn K mainGlobals "check_rows" = some (some (.ref fchr)))
    (lchr : K.lookup fchr = some ⟨occhr, odchr, .func (PySem.W.fnOf "check_rows" "check_rows" (defArgs sCheckRows) (defBody sCheckRows) (defScope sCheckRows) .none kVchr dcchr pmchr anchr cdchr ctchr), slchr⟩)
    (cchr : PySem.W.codeIn K cdchr "check_rows" = true)
    (kchr : PySem.W.keepIn K (.ref fchr) = true)
    (adra : PySem.W.nsIn K mainGlobals "_law_draw" = some (some (.ref fdra)))
    (ldra : K.lookup fdra = some ⟨ocdra, oddra, .func (PySem.W.fnOf "_law_draw" "_law_draw" (defArgs sLDraw) (defBody sLDraw) (defScope sLDraw) .none kVdra dcdra pmdra andra cddra ctdra), sldra⟩)
    (cdra : PySem.W.codeIn K cddra "_law_draw" = true)
    (kdra : PySem.W.keepIn K (.ref fdra) = true)
    (apic : PySem.W.nsIn K mainGlobals "_law_pick" = some (some (.ref fpic)))
    (lpic : K.lookup fpic = some ⟨ocpic, odpic, .func (PySem.W.fnOf "_law_pick" "_law_pick" (defArgs sLPick) (defBody sLPick) (defScope sLPick) .none kVpic dcpic pmpic anpic cdpic ctpic), slpic⟩)
    (cpic : PySem.W.codeIn K cdpic "_law_pick" = true)
    (kpic : PySem.W.keepIn K (.ref fpic) = true)
    (alow : PySem.W.nsIn K mainGlobals "_law_low" = some (some (.ref flow)))
    (llow : K.lookup flow = some ⟨oclow, odlow, .func (PySem.W.fnOf "_law_low" "_law_low" (defArgs sLLow) (defBody sLLow) (defScope sLLow) .none kVlow dclow pmlow anlow cdlow ctlow), sllow⟩)
    (clow : PySem.W.codeIn K cdlow "_law_low" = true)
    (klow : PySem.W.keepIn K (.ref flow) = true)
    (apai : PySem.W.nsIn K mainGlobals "_law_pair" = some (some (.ref fpai)))
    (lpai : K.lookup fpai = some ⟨ocpai, odpai, .func (PySem.W.fnOf "_law_pair" "_law_pair" (defArgs sLPair) (defBody sLPair) (defScope sLPair) .none kVpai dcpai pmpai anpai cdpai ctpai), slpai⟩)
    (cpai : PySem.W.codeIn K cdpai "_law_pair" = true)
    (kpai : PySem.W.keepIn K (.ref fpai) = true)
    (aplu : PySem.W.nsIn K mainGlobals "_law_plus" = some (some (.ref fplu)))
    (lplu : K.lookup fplu = some ⟨ocplu, odplu, .func (PySem.W.fnOf "_law_plus" "_law_plus" (defArgs sLPlus) (defBody sLPlus) (defScope sLPlus) .none kVplu dcplu pmplu anplu cdplu ctplu), slplu⟩)
    (cplu : PySem.W.codeIn K cdplu "_law_plus" = true)
    (kplu : PySem.W.keepIn K (.ref fplu) = true)
    (atim : PySem.W.nsIn K mainGlobals "_law_times" = some (some (.ref ftim)))
    (ltim : K.lookup ftim = some ⟨octim, odtim, .func (PySem.W.fnOf "_law_times" "_law_times" (defArgs sLTimes) (defBody sLTimes) (defScope sLTimes) .none kVtim dctim pmtim antim cdtim cttim), sltim⟩)
    (ctim : PySem.W.codeIn K cdtim "_law_times" = true)
    (ktim : PySem.W.keepIn K (.ref ftim) = true)
    (adot : PySem.W.nsIn K mainGlobals "_law_dot" = some (some (.ref fdot)))
    (ldot : K.lookup fdot = some ⟨ocdot, oddot, .func (PySem.W.fnOf "_law_dot" "_law_dot" (defArgs sLDot) (defBody sLDot) (defScope sLDot) .none kVdot dcdot pmdot andot cddot ctdot), sldot⟩)
    (cdot : PySem.W.codeIn K cddot "_law_dot" = true)
    (kdot : PySem.W.keepIn K (.ref fdot) = true)
    (anum : PySem.W.nsIn K mainGlobals "_law_number" = some (some (.ref fnum)))
    (lnum : K.lookup fnum = some ⟨ocnum, odnum, .func (PySem.W.fnOf "_law_number" "_law_number" (defArgs sLNumber) (defBody sLNumber) (defScope sLNumber) .none kVnum dcnum pmnum annum cdnum ctnum), slnum⟩)
    (cnum : PySem.W.codeIn K cdnum "_law_number" = true)
    (knum : PySem.W.keepIn K (.ref fnum) = true)
    (alrw : PySem.W.nsIn K mainGlobals "_law_rows" = some (some (.ref flrw)))
    (llrw : K.lookup flrw = some ⟨oclrw, odlrw, .func (PySem.W.fnOf "_law_rows" "_law_rows" (defArgs sLRows) (defBody sLRows) (defScope sLRows) .none kVlrw dclrw pmlrw anlrw cdlrw ctlrw), sllrw⟩)
    (clrw : PySem.W.codeIn K cdlrw "_law_rows" = true)
    (klrw : PySem.W.keepIn K (.ref flrw) = true)
    (asho : PySem.W.nsIn K mainGlobals "_law_shown" = some (some (.ref fsho)))
    (lsho : K.lookup fsho = some ⟨ocsho, odsho, .func (PySem.W.fnOf "_law_shown" "_law_shown" (defArgs sLShown) (defBody sLShown) (defScope sLShown) .none kVsho dcsho pmsho ansho cdsho ctsho), slsho⟩)
    (csho : PySem.W.codeIn K cdsho "_law_shown" = true)
    (ksho : PySem.W.keepIn K (.ref fsho) = true)
    (apot : PySem.W.nsIn K mainGlobals "_law_pot" = some (some (.ref fpot)))
    (lpot : K.lookup fpot = some ⟨ocpot, odpot, .func (PySem.W.fnOf "_law_pot" "_law_pot" (defArgs sLPot) (defBody sLPot) (defScope sLPot) .none kVpot dcpot pmpot anpot cdpot ctpot), slpot⟩)
    (cpot : PySem.W.codeIn K cdpot "_law_pot" = true)
    (kpot : PySem.W.keepIn K (.ref fpot) = true)
    (alis : PySem.W.nsIn K mainGlobals "_law_is" = some (some (.ref flis)))
    (llis : K.lookup flis = some ⟨oclis, odlis, .func (PySem.W.fnOf "_law_is" "_law_is" (defArgs sLIs) (defBody sLIs) (defScope sLIs) .none kVlis dclis pmlis anlis cdlis ctlis), sllis⟩)
    (clis : PySem.W.codeIn K cdlis "_law_is" = true)
    (klis : PySem.W.keepIn K (.ref flis) = true)
    (apar : PySem.W.nsIn K mainGlobals "_law_parts_right" = some (some (.ref fpar)))
    (lpar : K.lookup fpar = some ⟨ocpar, odpar, .func (PySem.W.fnOf "_law_parts_right" "_law_parts_right" (defArgs sLPartsRight) (defBody sLPartsRight) (defScope sLPartsRight) .none kVpar dcpar pmpar anpar cdpar ctpar), slpar⟩)
    (cpar : PySem.W.codeIn K cdpar "_law_parts_right" = true)
    (kpar : PySem.W.keepIn K (.ref fpar) = true)
    (acha : PySem.W.nsIn K mainGlobals "_law_changed" = some (some (.ref fcha)))
    (lcha : K.lookup fcha = some ⟨occha, odcha, .func (PySem.W.fnOf "_law_changed" "_law_changed" (defArgs sLChanged) (defBody sLChanged) (defScope sLChanged) .none kVcha dccha pmcha ancha cdcha ctcha), slcha⟩)
    (ccha : PySem.W.codeIn K cdcha "_law_changed" = true)
    (kcha : PySem.W.keepIn K (.ref fcha) = true)
    (arig : PySem.W.nsIn K mainGlobals "_law_right" = some (some (.ref frig)))
    (lrig : K.lookup frig = some ⟨ocrig, odrig, .func (PySem.W.fnOf "_law_right" "_law_right" (defArgs sLRight) (defBody sLRight) (defScope sLRight) .none kVrig dcrig pmrig anrig cdrig ctrig), slrig⟩)
    (crig : PySem.W.codeIn K cdrig "_law_right" = true)
    (krig : PySem.W.keepIn K (.ref frig) = true)
    (alaw : PySem.W.nsIn K mainGlobals "law" = some (some (.ref flaw)))
    (llaw : K.lookup flaw = some ⟨oclaw, odlaw, .func (PySem.W.fnOf "law" "law" (defArgs sLaw) (defBody sLaw) (defScope sLaw) .none kVlaw dclaw pmlaw anlaw cdlaw ctlaw), sllaw⟩)
    (claw : PySem.W.codeIn K cdlaw "law" = true)
    (klaw : PySem.W.keepIn K (.ref flaw) = true)
    (aadd : PySem.W.findIn K (.ref C) "__add__" = some (some (.ref fadd)))
    (iadd : PySem.W.isFn K (.ref fadd) = true)
    (ladd : K.lookup fadd = some ⟨ocadd, odadd, .func (PySem.W.fnOf "__add__" "Ratio.__add__" (defArgs sRatioAdd) (defBody sRatioAdd) (defScope sRatioAdd) .none kVadd dcadd pmadd anadd cdadd ctadd), sladd⟩)
    (cadd : PySem.W.codeIn K cdadd "Ratio.__add__" = true)
    (kadd : PySem.W.keepIn K (.ref fadd) = true)
    (amul : PySem.W.findIn K (.ref C) "__mul__" = some (some (.ref fmul)))
    (imul : PySem.W.isFn K (.ref fmul) = true)
    (lmul : K.lookup fmul = some ⟨ocmul, odmul, .func (PySem.W.fnOf "__mul__" "Ratio.__mul__" (defArgs sRatioMul) (defBody sRatioMul) (defScope sRatioMul) .none kVmul dcmul pmmul anmul cdmul ctmul), slmul⟩)
    (cmul : PySem.W.codeIn K cdmul "Ratio.__mul__" = true)
    (kmul : PySem.W.keepIn K (.ref fmul) = true)
    (aequ : PySem.W.findIn K (.ref C) "__eq__" = some (some (.ref fequ)))
    (iequ : PySem.W.isFn K (.ref fequ) = true)
    (lequ : K.lookup fequ = some ⟨ocequ, odequ, .func (PySem.W.fnOf "__eq__" "Ratio.__eq__" (defArgs sRatioEq) (defBody sRatioEq) (defScope sRatioEq) .none kVequ dcequ pmequ anequ cdequ ctequ), slequ⟩)
    (cequ : PySem.W.codeIn K cdequ "Ratio.__eq__" = true)
    (kequ : PySem.W.keepIn K (.ref fequ) = true)
    (arep : PySem.W.findIn K (.ref C) "__repr__" = some (some (.ref frep)))
    (irep : PySem.W.isFn K (.ref frep) = true)
    (lrep : K.lookup frep = some ⟨ocrep, odrep, .func (PySem.W.fnOf "__repr__" "Ratio.__repr__" (defArgs sRatioRepr) (defBody sRatioRepr) (defScope sRatioRepr) .none kVrep dcrep pmrep anrep cdrep ctrep), slrep⟩)
    (crep : PySem.W.codeIn K cdrep "Ratio.__repr__" = true)
    (krep : PySem.W.keepIn K (.ref frep) = true)
    (aprw : PySem.W.findIn K (.ref B) "rows" = some (some (.ref fprw)))
    (iprw : PySem.W.isFn K (.ref fprw) = true)
    (lprw : K.lookup fprw = some ⟨ocprw, odprw, .func (PySem.W.fnOf "rows" "Program.rows" (defArgs sProgramRows) (defBody sProgramRows) (defScope sProgramRows) .none kVprw dcprw pmprw anprw cdprw ctprw), slprw⟩)
    (cprw : PySem.W.codeIn K cdprw "Program.rows" = true)
    (kprw : PySem.W.keepIn K (.ref fprw) = true)
    (apln : PySem.W.findIn K (.ref B) "__len__" = some (some (.ref fpln)))
    (ipln : PySem.W.isFn K (.ref fpln) = true)
    (lpln : K.lookup fpln = some ⟨ocpln, odpln, .func (PySem.W.fnOf "__len__" "Program.__len__" (defArgs sProgramLen) (defBody sProgramLen) (defScope sProgramLen) .none kVpln dcpln pmpln anpln cdpln ctpln), slpln⟩)
    (cpln : PySem.W.codeIn K cdpln "Program.__len__" = true)
    (kpln : PySem.W.keepIn K (.ref fpln) = true)
    (apgt : PySem.W.findIn K (.ref B) "__getitem__" = some (some (.ref fpgt)))
    (ipgt : PySem.W.isFn K (.ref fpgt) = true)
    (lpgt : K.lookup fpgt = some ⟨ocpgt, odpgt, .func (PySem.W.fnOf "__getitem__" "Program.__getitem__" (defArgs sProgramGetitem) (defBody sProgramGetitem) (defScope sProgramGetitem) .none kVpgt dcpgt pmpgt anpgt cdpgt ctpgt), slpgt⟩)
    (cpgt : PySem.W.codeIn K cdpgt "Program.__getitem__" = true)
    (kpgt : PySem.W.keepIn K (.ref fpgt) = true)
    (apad : PySem.W.findIn K (.ref B) "__add__" = some (some (.ref fpad)))
    (ipad : PySem.W.isFn K (.ref fpad) = true)
    (lpad : K.lookup fpad = some ⟨ocpad, odpad, .func (PySem.W.fnOf "__add__" "Program.__add__" (defArgs sProgramAdd) (defBody sProgramAdd) (defScope sProgramAdd) .none kVpad dcpad pmpad anpad cdpad ctpad), slpad⟩)
    (cpad : PySem.W.codeIn K cdpad "Program.__add__" = true)
    (kpad : PySem.W.keepIn K (.ref fpad) = true)
    (apwo : PySem.W.findIn K (.ref B) "without" = some (some (.ref fpwo)))
    (ipwo : PySem.W.isFn K (.ref fpwo) = true)
    (lpwo : K.lookup fpwo = some ⟨ocpwo, odpwo, .func (PySem.W.fnOf "without" "Program.without" (defArgs sProgramWithout) (defBody sProgramWithout) (defScope sProgramWithout) .none kVpwo dcpwo pmpwo anpwo cdpwo ctpwo), slpwo⟩)
    (cpwo : PySem.W.codeIn K cdpwo "Program.without" = true)
    (kpwo : PySem.W.keepIn K (.ref fpwo) = true)
    (apwb : PySem.W.findIn K (.ref B) "with_bound" = some (some (.ref fpwb)))
    (ipwb : PySem.W.isFn K (.ref fpwb) = true)
    (lpwb : K.lookup fpwb = some ⟨ocpwb, odpwb, .func (PySem.W.fnOf "with_bound" "Program.with_bound" (defArgs sProgramWithBound) (defBody sProgramWithBound) (defScope sProgramWithBound) .none kVpwb dcpwb pmpwb anpwb cdpwb ctpwb), slpwb⟩)
    (cpwb : PySem.W.codeIn K cdpwb "Program.with_bound" = true)
    (kpwb : PySem.W.keepIn K (.ref fpwb) = true)
    (apsu : PySem.W.findIn K (.ref B) "sums" = some (some (.ref fpsu)))
    (ipsu : PySem.W.isFn K (.ref fpsu) = true)
    (lpsu : K.lookup fpsu = some ⟨ocpsu, odpsu, .func (PySem.W.fnOf "sums" "Program.sums" (defArgs sProgramSums) (defBody sProgramSums) (defScope sProgramSums) .none kVpsu dcpsu pmpsu anpsu cdpsu ctpsu), slpsu⟩)
    (cpsu : PySem.W.codeIn K cdpsu "Program.sums" = true)
    (kpsu : PySem.W.keepIn K (.ref fpsu) = true)
    (apeq : PySem.W.findIn K (.ref B) "__eq__" = some (some (.ref fpeq)))
    (ipeq : PySem.W.isFn K (.ref fpeq) = true)
    (lpeq : K.lookup fpeq = some ⟨ocpeq, odpeq, .func (PySem.W.fnOf "__eq__" "Program.__eq__" (defArgs sProgramEq) (defBody sProgramEq) (defScope sProgramEq) .none kVpeq dcpeq pmpeq anpeq cdpeq ctpeq), slpeq⟩)
    (cpeq : PySem.W.codeIn K cdpeq "Program.__eq__" = true)
    (kpeq : PySem.W.keepIn K (.ref fpeq) = true)
    (aprp : PySem.W.findIn K (.ref B) "__repr__" = some (some (.ref fprp)))
    (iprp : PySem.W.isFn K (.ref fprp) = true)
    (lprp : K.lookup fprp = some ⟨ocprp, odprp, .func (PySem.W.fnOf "__repr__" "Program.__repr__" (defArgs sProgramRepr) (defBody sProgramRepr) (defScope sProgramRepr) .none kVprp dcprp pmprp anprp cdprp ctprp), slprp⟩)
    (cprp : PySem.W.codeIn K cdprp "Program.__repr__" = true)
    (kprp : PySem.W.keepIn K (.ref fprp) = true)
    (apck : PySem.W.findIn K (.ref B) "_check_position" = some (some (.ref fpck)))
    (ipck : PySem.W.isFn K (.ref fpck) = true)
    (lpck : K.lookup fpck = some ⟨ocpck, odpck, .func (PySem.W.fnOf "_check_position" "Program._check_position" (defArgs sProgramCheckPosition) (defBody sProgramCheckPosition) (defScope sProgramCheckPosition) .none kVpck dcpck pmpck anpck cdpck ctpck), slpck⟩)
    (cpck : PySem.W.codeIn K cdpck "Program._check_position" = true)
    (kpck : PySem.W.keepIn K (.ref fpck) = true)
    (fG : PySem.W.fnIn K fpgt = true)
    (atop : PySem.W.findIn K (.ref C) "top" = some (some (.ref ptop)))
    (gtop : PySem.W.specialIn K (.ref ptop) "__get__" = some (some (.builtin "property.__get__")))
    (ttop : PySem.W.takesIn K (.ref ptop) = some true)
    (rtop : PySem.W.recIn K ptop "property" = some (.ref ftop :: rstop))
    (ltop : K.lookup ftop = some ⟨octop, odtop, .func (PySem.W.fnOf "top" "Ratio.top" (defArgs sRatioTop) (defBody sRatioTop) (defScope sRatioTop) .none kVtop dctop pmtop antop cdtop cttop), sltop⟩)
    (ctop : PySem.W.codeIn K cdtop "Ratio.top" = true)
    (ktop : PySem.W.keepIn K (.ref ftop) = true)
    (abot : PySem.W.findIn K (.ref C) "bottom" = some (some (.ref pbot)))
    (gbot : PySem.W.specialIn K (.ref pbot) "__get__" = some (some (.builtin "property.__get__")))
    (tbot : PySem.W.takesIn K (.ref pbot) = some true)
    (rbot : PySem.W.recIn K pbot "property" = some (.ref fbot :: rsbot))
    (lbot : K.lookup fbot = some ⟨ocbot, odbot, .func (PySem.W.fnOf "bottom" "Ratio.bottom" (defArgs sRatioBottom) (defBody sRatioBottom) (defScope sRatioBottom) .none kVbot dcbot pmbot anbot cdbot ctbot), slbot⟩)
    (cbot : PySem.W.codeIn K cdbot "Ratio.bottom" = true)
    (kbot : PySem.W.keepIn K (.ref fbot) = true)
    (aunk : PySem.W.findIn K (.ref B) "unknowns" = some (some (.ref punk)))
    (gunk : PySem.W.specialIn K (.ref punk) "__get__" = some (some (.builtin "property.__get__")))
    (tunk : PySem.W.takesIn K (.ref punk) = some true)
    (runk : PySem.W.recIn K punk "property" = some (.ref funk :: rsunk))
    (lunk : K.lookup funk = some ⟨ocunk, odunk, .func (PySem.W.fnOf "unknowns" "Program.unknowns" (defArgs sProgramUnknowns) (defBody sProgramUnknowns) (defScope sProgramUnknowns) .none kVunk dcunk pmunk anunk cdunk ctunk), slunk⟩)
    (cunk : PySem.W.codeIn K cdunk "Program.unknowns" = true)
    (kunk : PySem.W.keepIn K (.ref funk) = true)
    (rdB : PySem.W.readsIn K B (.type "type") = true)
    (gaB : PySem.W.specialIn K (.ref B) "__getattribute__" = some (some (.builtin "type.__getattribute__")))
    (qU : PySem.W.findCls K (.ref B) (.type "type") "MOST_UNKNOWNS" = some (.val (.int 16 tkU)))
    (qR : PySem.W.findCls K (.ref B) (.type "type") "MOST_ROWS" = some (.val (.int 24 tkR)))
    (aini : PySem.W.findIn K (.ref C) "__init__" = some (some (.ref fini)))
    (iini : PySem.W.isFn K (.ref fini) = true)
    (lini : K.lookup fini = some ⟨ocini, odini, .func (PySem.W.fnOf "__init__" "Ratio.__init__" (defArgs sRatioInit) (defBody sRatioInit) (defScope sRatioInit) (.ref Tini) kVini dcini pmini anini cdini ctini), slini⟩)
    (cini : PySem.W.codeIn K cdini "Ratio.__init__" = true)
    (kini : PySem.W.keepIn K (.ref fini) = true)
    (lT : K.lookup Tini = some ⟨ocT, odT, .seq #[.int 1 tkT] nT, slT⟩)
    (apin : PySem.W.findIn K (.ref B) "__init__" = some (some (.ref fpin)))
    (ipin : PySem.W.isFn K (.ref fpin) = true)
    (lpin : K.lookup fpin = some ⟨ocpin, odpin, .func (PySem.W.fnOf "__init__" "Program.__init__" (defArgs sProgramInit) (defBody sProgramInit) (defScope sProgramInit) (.ref Tpin) kVpin dcpin pmpin anpin cdpin ctpin), slpin⟩)
    (cpin : PySem.W.codeIn K cdpin "Program.__init__" = true)
    (kpin : PySem.W.keepIn K (.ref fpin) = true)
    (lU : K.lookup Tpin = some ⟨ocU, odU, .seq #[.ref a0] nU, slU⟩)
    (l0 : K.lookup a0 = some ⟨.type "tuple", od0, .seq #[] n0, sl0⟩)
    (pgC : PySem.W.plainGet K C Str.empty = true)
    (hdC : PySem.W.hasDictIn K C = true)
    (poC : PySem.W.plainOver K C = true)
    (saC : PySem.W.findIn K (.ref C) "__setattr__" = some (some (.builtin "object.__setattr__")))
    (mkC : PySem.W.makesIn K C = true)
    (kcC : PySem.W.keepIn K (.ref C) = true)
    (hclC : PySem.W.findIn K (.ref C) "__class__" = some (some (.builtin "object.__class__")))
    (hmoC : PySem.W.mroIn K C (.type "object") = some true)
    (isC : PySem.W.isClsIn K C = true)
    (tyC : PySem.W.typeIn K (.ref C) = some (.type "type"))
    (sfC : PySem.W.selfFirst K C = true)
    (siC : PySem.W.subIn K (.type "int") (.ref C) = some false)
    (pgB : PySem.W.plainGet K B Str.empty = true)
    (hdB : PySem.W.hasDictIn K B = true)
    (poB : PySem.W.plainOver K B = true)
    (saB : PySem.W.findIn K (.ref B) "__setattr__" = some (some (.builtin "object.__setattr__")))
    (mkB : PySem.W.makesIn K B = true)
    (kcB : PySem.W.keepIn K (.ref B) = true)
    (hclB : PySem.W.findIn K (.ref B) "__class__" = some (some (.builtin "object.__class__")))
    (hmoB : PySem.W.mroIn K B (.type "object") = some true)
    (isB : PySem.W.isClsIn K B = true)
    (tyB : PySem.W.typeIn K (.ref B) = some (.type "type"))
    (sfB : PySem.W.selfFirst K B = true)
    (siB : PySem.W.subIn K (.type "int") (.ref B) = some false)
    (hT0 : PySem.W.findIn K (.ref C) "_top" = some none)
    (nB : PySem.W.findIn K (.ref C) "_bottom" = some none)
    (hU0 : PySem.W.findIn K (.ref B) "_unknowns" = some none)
    (hR0 : PySem.W.findIn K (.ref B) "_rows" = some none)
    (gcd : PySem.W.nsIn K mainGlobals "gcd" = some (some (.builtin "math.gcd")))
    (hcg : PySem.W.specialIn K (.builtin "object.__class__") "__get__" = some (some (.builtin "getset_descriptor.__get__")))
    (htk : PySem.W.takesIn K (.builtin "object.__class__") = some true)
    (ne : PySem.W.findIn K (.ref B) "__ne__" = some (some (.builtin "object.__ne__")))
    (sCi : PySem.W.subIn K (.ref C) (.type "int") = some false)
    (stB : PySem.W.subIn K (.type "tuple") (.ref B) = some false)
    (slB : PySem.W.subIn K (.type "list") (.ref B) = some false)
    (snB : PySem.W.subIn K (.type "NoneType") (.ref B) = some false)
    (ssB : PySem.W.subIn K (.type "str") (.ref B) = some false)
    (rmC : PySem.W.findIn K (.ref C) "__rmul__" = some (some (.ref frm)))
    (f1mu : PySem.W.findIn K (.type "int") "__mul__" = some fomu)
    (f2mu : PySem.W.findIn K (.type "int") "__rmul__" = some romu)
    (z_isinstance : PySem.W.nsIn K mainGlobals "isinstance" = some none)
    (z_int : PySem.W.nsIn K mainGlobals "int" = some none)
    (z_bool : PySem.W.nsIn K mainGlobals "bool" = some none)
    (z_list : PySem.W.nsIn K mainGlobals "list" = some none)
    (z_tuple : PySem.W.nsIn K mainGlobals "tuple" = some none)
    (z_len : PySem.W.nsIn K mainGlobals "len" = some none)
    (z_repr : PySem.W.nsIn K mainGlobals "repr" = some none)
    (z_all : PySem.W.nsIn K mainGlobals "all" = some none)
    (z_any : PySem.W.nsIn K mainGlobals "any" = some none)
    (z_abs : PySem.W.nsIn K mainGlobals "abs" = some none)
    (z_max : PySem.W.nsIn K mainGlobals "max" = some none)
    (z_min : PySem.W.nsIn K mainGlobals "min" = some none)
    (z_divmod : PySem.W.nsIn K mainGlobals "divmod" = some none)
    (z_range : PySem.W.nsIn K mainGlobals "range" = some none)
    (z_zip : PySem.W.nsIn K mainGlobals "zip" = some none)
    (z_enumerate : PySem.W.nsIn K mainGlobals "enumerate" = some none) :
    ∃ fd : FuncData, (∀ (s : Shared) (v : Value), BindsTo s fd ⟨[v], []⟩ [("_law_script", v)]) ∧ ∀ base : Heap, K.In base → base.Ns mainGlobals mg → FnG l.prog w K mg base CX0 13 fa fd ["_law_script"] (spLaw K) := by
  have e := hfa.symm.trans (PySem.W.mg_of X G alaw)
  cases e
  let D : CT := fun | 0 => (C, [("_top" : Str), ("_bottom" : Str)]) | _ => (B, [("_unknowns" : Str), ("_rows" : Str)])
  have subs : ∀ x ∈ ["int", "tuple", "list", "NoneType", "str"], PySem.W.subIn K (.type x) (.ref B) = some false := fun x hx => by
    simp only [List.mem_cons, List.not_mem_nil, or_false] at hx
    rcases hx with rfl | rfl | rfl | rfl | rfl
    · exact siB
    · exact stB
    · exact slB
    · exact snB
    · exact ssB
  have T : Txt K mg D := { fR := rfl, fP := rfl, kR := ⟨⟨pgC, hdC, poC, saC⟩, hclC, hcg, htk, hmoC⟩, kP := ⟨⟨pgB, hdB, poB, saB⟩, hclB, hcg, htk, hmoB⟩, nT := hT0, nB := nB, nU := hU0, nW := hR0, mgRatio := PySem.W.mg_of X G aC, mgProgram := PySem.W.mg_of X G aB, isinstance := PySem.W.mg_none_of X G z_isinstance, int := PySem.W.mg_none_of X G z_int, bool := PySem.W.mg_none_of X G z_bool, list := PySem.W.mg_none_of X G z_list, tuple := PySem.W.mg_none_of X G z_tuple, len := PySem.W.mg_none_of X G z_len, repr := PySem.W.mg_none_of X G z_repr, all := PySem.W.mg_none_of X G z_all, any := PySem.W.mg_none_of X G z_any, abs := PySem.W.mg_none_of X G z_abs, max := PySem.W.mg_none_of X G z_max, min := PySem.W.mg_none_of X G z_min, divmod := PySem.W.mg_none_of X G z_divmod, range := PySem.W.mg_none_of X G z_range, zip := PySem.W.mg_none_of X G z_zip, enumerate := PySem.W.mg_none_of X G z_enumerate, gcd := PySem.W.mg_of X G gcd, kRi := kit_int rfl sCi, kIR := kit_ref rfl isC tyC siC, kRR := kit_same, kPP := kit_same, kXP := fun x hx => kit_ref rfl isB tyB (subs x hx) }
  have nf : ∀ x ∈ ["int", "tuple", "list", "NoneType", "str"], PySem.W.notFirst K B (.type x) = true := fun x hx => first_of (subs x hx)
  have Zc : Cst K D := ⟨.type "type", .int 16 tkU, .int 24 tkR, ⟨rdB, gaB⟩, ⟨qU, ⟨tkU, rfl⟩⟩, ⟨qR, ⟨tkR, rfl⟩⟩⟩
  have MI0 : MulI K D := ⟨_, _, _, rmC, .inr ⟨_, rfl⟩, f1mu, f2mu, siC⟩
  have FisI := fun_mk (st := sIsInteger) lisI cisI kisI
  have bisI := FisI.binds (ps := ["value"]) fun _ _ _ _ _ _ us hl => match us, hl with | [_], _ => rfl
  have FisC := fun_mk (st := sIsCount) lisC cisC kisC
  have bisC := FisC.binds (ps := ["value"]) fun _ _ _ _ _ _ us hl => match us, hl with | [_], _ => rfl
  have FisL := fun_mk (st := sIsList) lisL cisL kisL
  have bisL := FisL.binds (ps := ["value"]) fun _ _ _ _ _ _ us hl => match us, hl with | [_], _ => rfl
  have Fipb := fun_mk (st := sIsPlaceBelow) lipb cipb kipb
  have bipb := Fipb.binds (ps := ["value", "places"]) fun _ _ _ _ _ _ us hl => match us, hl with | [_, _], _ => rfl
  have FisN := fun_mk (st := sIsNumber) lisN cisN kisN
  have bisN := FisN.binds (ps := ["value"]) fun _ _ _ _ _ _ us hl => match us, hl with | [_], _ => rfl
  have Fchk := fun_mk (st := sCheckNumber) lchk cchk kchk
  have bchk := Fchk.binds (ps := ["number"]) fun _ _ _ _ _ _ us hl => match us, hl with | [_], _ => rfl
  have FasR := fun_mk (st := sAsRatio) lasR casR kasR
  have basR := FasR.binds (ps := ["number"]) fun _ _ _ _ _ _ us hl => match us, hl with | [_], _ => rfl
  have FaRs := fun_mk (st := sAsRatios) laRs caRs kaRs
  have baRs := FaRs.binds (ps := ["numbers"]) fun _ _ _ _ _ _ us hl => match us, hl with | [_], _ => rfl
  have FarN := fun_mk (st := sAreNumbers) larN carN karN
  have barN := FarN.binds (ps := ["value", "many"]) fun _ _ _ _ _ _ us hl => match us, hl with | [_, _], _ => rfl
  have Fprd := fun_mk (st := sProducts) lprd cprd kprd
  have bprd := Fprd.binds (ps := ["numbers", "others"]) fun _ _ _ _ _ _ us hl => match us, hl with | [_, _], _ => rfl
  have Fisr := fun_mk (st := sIsRow) lisr cisr kisr
  have bisr := Fisr.binds (ps := ["value", "unknowns"]) fun _ _ _ _ _ _ us hl => match us, hl with | [_, _], _ => rfl
  have Fchr := fun_mk (st := sCheckRows) lchr cchr kchr
  have bchr := Fchr.binds (ps := ["rows", "unknowns"]) fun _ _ _ _ _ _ us hl => match us, hl with | [_, _], _ => rfl
  have Fdra := fun_mk (st := sLDraw) ldra cdra kdra
  have bdra := Fdra.binds (ps := ["_law_pot_here", "_law_size"]) fun _ _ _ _ _ _ us hl => match us, hl with | [_, _], _ => rfl
  have Fpic := fun_mk (st := sLPick) lpic cpic kpic
  have bpic := Fpic.binds (ps := ["_law_pot_here", "_law_some"]) fun _ _ _ _ _ _ us hl => match us, hl with | [_, _], _ => rfl
  have Flow := fun_mk (st := sLLow) llow clow klow
  have blow := Flow.binds (ps := ["_law_above", "_law_below"]) fun _ _ _ _ _ _ us hl => match us, hl with | [_, _], _ => rfl
  have Fpai := fun_mk (st := sLPair) lpai cpai kpai
  have bpai := Fpai.binds (ps := ["_law_number_here"]) fun _ _ _ _ _ _ us hl => match us, hl with | [_], _ => rfl
  have Fplu := fun_mk (st := sLPlus) lplu cplu kplu
  have bplu := Fplu.binds (ps := ["_law_one", "_law_other"]) fun _ _ _ _ _ _ us hl => match us, hl with | [_, _], _ => rfl
  have Ftim := fun_mk (st := sLTimes) ltim ctim ktim
  have btim := Ftim.binds (ps := ["_law_one", "_law_other"]) fun _ _ _ _ _ _ us hl => match us, hl with | [_, _], _ => rfl
  have Fdot := fun_mk (st := sLDot) ldot cdot kdot
  have bdot := Fdot.binds (ps := ["_law_some", "_law_others"]) fun _ _ _ _ _ _ us hl => match us, hl with | [_, _], _ => rfl
  have Fnum := fun_mk (st := sLNumber) lnum cnum knum
  have bnum := Fnum.binds (ps := ["_law_pot_here", "_law_most"]) fun _ _ _ _ _ _ us hl => match us, hl with | [_, _], _ => rfl
  have Flrw := fun_mk (st := sLRows) llrw clrw klrw
  have blrw := Flrw.binds (ps := ["_law_pot_here", "_law_many", "_law_most"]) fun _ _ _ _ _ _ us hl => match us, hl with | [_, _, _], _ => rfl
  have Fsho := fun_mk (st := sLShown) lsho csho ksho
  have bsho := Fsho.binds (ps := ["_law_rows_here"]) fun _ _ _ _ _ _ us hl => match us, hl with | [_], _ => rfl
  have Fpot := fun_mk (st := sLPot) lpot cpot kpot
  have bpot := Fpot.binds (ps := ["_law_script", "_law_k"]) fun _ _ _ _ _ _ us hl => match us, hl with | [_, _], _ => rfl
  have Flis := fun_mk (st := sLIs) llis clis klis
  have blis := Flis.binds (ps := ["_law_pot_here", "_law_program", "_law_many", "_law_rows_here"]) fun _ _ _ _ _ _ us hl => match us, hl with | [_, _, _, _], _ => rfl
  have Fpar := fun_mk (st := sLPartsRight) lpar cpar kpar
  have bpar := Fpar.binds (ps := ["_law_pot_here", "_law_many", "_law_rows_here"]) fun _ _ _ _ _ _ us hl => match us, hl with | [_, _, _], _ => rfl
  have Fcha := fun_mk (st := sLChanged) lcha ccha kcha
  have bcha := Fcha.binds (ps := ["_law_pot_here", "_law_program", "_law_many", "_law_rows_here"]) fun _ _ _ _ _ _ us hl => match us, hl with | [_, _, _, _], _ => rfl
  have Frig := fun_mk (st := sLRight) lrig crig krig
  have brig := Frig.binds (ps := ["_law_pot_here"]) fun _ _ _ _ _ _ us hl => match us, hl with | [_], _ => rfl
  have Flaw := fun_mk (st := sLaw) llaw claw klaw
  have Fadd := fun_mk (st := sRatioAdd) ladd cadd kadd
  have badd := Fadd.binds (ps := ["self", "other"]) fun _ _ _ _ _ _ us hl => match us, hl with | [_, _], _ => rfl
  have Fmul := fun_mk (st := sRatioMul) lmul cmul kmul
  have bmul := Fmul.binds (ps := ["self", "other"]) fun _ _ _ _ _ _ us hl => match us, hl with | [_, _], _ => rfl
  have Fequ := fun_mk (st := sRatioEq) lequ cequ kequ
  have bequ := Fequ.binds (ps := ["self", "other"]) fun _ _ _ _ _ _ us hl => match us, hl with | [_, _], _ => rfl
  have Frep := fun_mk (st := sRatioRepr) lrep crep krep
  have brep := Frep.binds (ps := ["self"]) fun _ _ _ _ _ _ us hl => match us, hl with | [_], _ => rfl
  have Fprw := fun_mk (st := sProgramRows) lprw cprw kprw
  have bprw := Fprw.binds (ps := ["self"]) fun _ _ _ _ _ _ us hl => match us, hl with | [_], _ => rfl
  have Fpln := fun_mk (st := sProgramLen) lpln cpln kpln
  have bpln := Fpln.binds (ps := ["self"]) fun _ _ _ _ _ _ us hl => match us, hl with | [_], _ => rfl
  have Fpgt := fun_mk (st := sProgramGetitem) lpgt cpgt kpgt
  have bpgt := Fpgt.binds (ps := ["self", "at"]) fun _ _ _ _ _ _ us hl => match us, hl with | [_, _], _ => rfl
  have Fpad := fun_mk (st := sProgramAdd) lpad cpad kpad
  have bpad := Fpad.binds (ps := ["self", "other"]) fun _ _ _ _ _ _ us hl => match us, hl with | [_, _], _ => rfl
  have Fpwo := fun_mk (st := sProgramWithout) lpwo cpwo kpwo
  have bpwo := Fpwo.binds (ps := ["self", "position"]) fun _ _ _ _ _ _ us hl => match us, hl with | [_, _], _ => rfl
  have Fpwb := fun_mk (st := sProgramWithBound) lpwb cpwb kpwb
  have bpwb := Fpwb.binds (ps := ["self", "position", "number"]) fun _ _ _ _ _ _ us hl => match us, hl with | [_, _, _], _ => rfl
  have Fpsu := fun_mk (st := sProgramSums) lpsu cpsu kpsu
  have bpsu := Fpsu.binds (ps := ["self", "values"]) fun _ _ _ _ _ _ us hl => match us, hl with | [_, _], _ => rfl
  have Fpeq := fun_mk (st := sProgramEq) lpeq cpeq kpeq
  have bpeq := Fpeq.binds (ps := ["self", "other"]) fun _ _ _ _ _ _ us hl => match us, hl with | [_, _], _ => rfl
  have Fprp := fun_mk (st := sProgramRepr) lprp cprp kprp
  have bprp := Fprp.binds (ps := ["self"]) fun _ _ _ _ _ _ us hl => match us, hl with | [_], _ => rfl
  have Fpck := fun_mk (st := sProgramCheckPosition) lpck cpck kpck
  have bpck := Fpck.binds (ps := ["self", "position"]) fun _ _ _ _ _ _ us hl => match us, hl with | [_, _], _ => rfl
  have Ftop := fun_mk (st := sRatioTop) ltop ctop ktop
  have btop := Ftop.binds (ps := ["self"]) fun _ _ _ _ _ _ us hl => match us, hl with | [_], _ => rfl
  have Fbot := fun_mk (st := sRatioBottom) lbot cbot kbot
  have bbot := Fbot.binds (ps := ["self"]) fun _ _ _ _ _ _ us hl => match us, hl with | [_], _ => rfl
  have Funk := fun_mk (st := sProgramUnknowns) lunk cunk kunk
  have bunk := Funk.binds (ps := ["self"]) fun _ _ _ _ _ _ us hl => match us, hl with | [_], _ => rfl
  have Fini : FunD K "__init__" "Ratio.__init__" (defArgs sRatioInit) (defBody sRatioInit) (defScope sRatioInit) [.int 1] [] fini _ := ⟨⟨_, _, _, _, _, _, _, _, _, _, rfl, lini, cini, .inr ⟨by simp, Tini, _, [.int 1 tkT], nT, rfl, lT, rfl, .cons ⟨tkT, rfl⟩ .nil⟩, .inl rfl⟩, kini⟩
  obtain ⟨ds0, v0, b2⟩ := Fini.binds1 (ps := ["self", "top", "bottom"]) 3 1 (by simp) rfl fun T kV doc pm an cdv ct us its h1 h2 => match us, its, h1, h2 with | [_, _, _], [_], _, _ => ⟨_, rfl, rfl⟩
  cases v0
  obtain ⟨ds1, v1, b1⟩ := Fini.binds1 (ps := ["self", "top", "bottom"]) 2 0 (by simp) rfl fun T kV doc pm an cdv ct us its h1 h2 => match us, its, h1, h2 with | [_, _], [_], _, _ => ⟨_, rfl, rfl⟩
  have Fpin : FunD K "__init__" "Program.__init__" (defArgs sProgramInit) (defBody sProgramInit) (defScope sProgramInit) [.ref a0] [] fpin _ := ⟨⟨_, _, _, _, _, _, _, _, _, _, rfl, lpin, cpin, .inr ⟨by simp, Tpin, _, [.ref a0], nU, rfl, lU, rfl, .cons rfl .nil⟩, .inl rfl⟩, kpin⟩
  obtain ⟨es0, w0, p2⟩ := Fpin.binds1 (ps := ["self", "unknowns", "rows"]) 3 1 (by simp) rfl fun T kV doc pm an cdv ct us its h1 h2 => match us, its, h1, h2 with | [_, _, _], [_], _, _ => ⟨_, rfl, rfl⟩
  cases w0
  obtain ⟨es1, w1, p1⟩ := Fpin.binds1 (ps := ["self", "unknowns", "rows"]) 2 0 (by simp) rfl fun T kV doc pm an cdv ct us its h1 h2 => match us, its, h1, h2 with | [_, _], [_], _, _ => ⟨_, rfl, rfl⟩
  obtain ⟨kits, kkw⟩ := Fpin.kbindsD (ps := ["self", "unknowns", "rows"]) 1 ["rows", "unknowns"] (fun us ds ws => us ++ ws.reverse) (by simp) (fun r1 r2 r3 => r1.append (vals_rev r3)) fun T kV doc pm an cdv ct us its ws h1 h2 h3 => match us, its, ws, h1, h2, h3 with | [_], [_], [_, _], _, _, _ => ⟨_, rfl, rfl⟩
  have kn : Kn K a0 := ⟨_, _, l0, rfl, rfl⟩
  refine ⟨PySem.W.fnOf "law" "law" (defArgs sLaw) (defBody sLaw) (defScope sLaw) .none kVlaw dclaw pmlaw anlaw cdlaw ctlaw, fun s v => .of_eq rfl, fun base _ _ => ?_⟩
  let DI : Df l.prog w K mg base 1 "is_integer" ["value"] (spIsI D) := ⟨fisI, _, ok_isI T FisI, PySem.W.mg_of X G aisI, kisI, bisI⟩
  let DC : Df l.prog w K mg base 2 "is_count" ["value"] (spIsC D) := ⟨fisC, _, ok_isC T DI FisC, PySem.W.mg_of X G aisC, kisC, bisC⟩
  let DL_ : Df l.prog w K mg base 1 "is_list" ["value"] (spIsL D) := ⟨fisL, _, ok_isL T FisL, PySem.W.mg_of X G aisL, kisL, bisL⟩
  let DL0 : Df l.prog w K mg base 1 "is_list" ["value"] (spIsL0 a0) := ⟨fisL, _, ok_isL0 T kn FisL, PySem.W.mg_of X G aisL, kisL, bisL⟩
  let DPB : Df l.prog w K mg base 3 "is_place_below" ["value", "places"] (spIsPB D) := ⟨fipb, _, ok_isPB DC Fipb, PySem.W.mg_of X G aipb, kipb, bipb⟩
  let DN_ : Df l.prog w K mg base 2 "is_number" ["value"] (spIsN D) := ⟨fisN, _, ok_isN T DI FisN, PySem.W.mg_of X G aisN, kisN, bisN⟩
  let DCN : Df l.prog w K mg base 3 "check_number" ["number"] (spChk D) := ⟨fchk, _, ok_chk DN_ Fchk, PySem.W.mg_of X G achk, kchk, bchk⟩
  let MR : MkR l.prog w K mg base D := ⟨fini, _, ds1, ⟨mkC, aini, iini, kcC⟩, ok_initR T DI Fini, b2, b1, v1⟩
  let DA_ : Df l.prog w K mg base 4 "as_ratio" ["number"] (spAsR D) := ⟨fasR, _, ok_asR T MR FasR, PySem.W.mg_of X G aasR, kasR, basR⟩
  let DAS : Df l.prog w K mg base 5 "as_ratios" ["numbers"] (spAsRs D) := ⟨faRs, _, ok_asRs T DA_ FaRs, PySem.W.mg_of X G aaRs, kaRs, baRs⟩
  let DAN : Df l.prog w K mg base 3 "are_numbers" ["value", "many"] (spAreN D) := ⟨farN, _, ok_areN T DL_ DN_ FarN, PySem.W.mg_of X G aarN, karN, barN⟩
  let DP_top : Pr l.prog w K mg base D 0 "top" (spTop D) := ⟨ptop, ftop, _, ok_top T Ftop, ⟨atop, gtop, ttop, _, rtop⟩, btop, T.kR.cl⟩
  let DP_bottom : Pr l.prog w K mg base D 0 "bottom" (spBot D) := ⟨pbot, fbot, _, ok_bot T Fbot, ⟨abot, gbot, tbot, _, rbot⟩, bbot, T.kR.cl⟩
  let MA : Mt l.prog w K mg base D 0 5 "__add__" ["self", "other"] (spBin D (· + ·)) := ⟨fadd, _, ok_add T MR DA_ DP_top DP_bottom Fadd, ⟨aadd, iadd, kadd⟩, badd, T.kR.cl⟩
  let MM : Mt l.prog w K mg base D 0 5 "__mul__" ["self", "other"] (spBin D (· * ·)) := ⟨fmul, _, ok_mul T MR DA_ DP_top DP_bottom Fmul, ⟨amul, imul, kmul⟩, bmul, T.kR.cl⟩
  let ME : Mt l.prog w K mg base D 0 1 "__eq__" ["self", "other"] (spEqR D) := ⟨fequ, _, ok_eq T Fequ, ⟨aequ, iequ, kequ⟩, bequ, T.kR.cl⟩
  let MR_ : Mt l.prog w K mg base D 0 1 "__repr__" ["self"] (spRepr D) := ⟨frep, _, ok_repr T Frep, ⟨arep, irep, krep⟩, brep, T.kR.cl⟩
  let DPR : Df l.prog w K mg base 6 "products" ["numbers", "others"] (spProd D) := ⟨fprd, _, ok_prod T MR DA_ MA MM sfC MI0 Fprd, PySem.W.mg_of X G aprd, kprd, bprd⟩
  let DRW : Df l.prog w K mg base 4 "is_row" ["value", "unknowns"] (spRow D) := ⟨fisr, _, ok_row T DAN DN_ Fisr, PySem.W.mg_of X G aisr, kisr, bisr⟩
  let DCR : Df l.prog w K mg base 5 "check_rows" ["rows", "unknowns"] (spChkR D) := ⟨fchr, _, ok_chkR T DL_ DRW Fchr, PySem.W.mg_of X G achr, kchr, bchr⟩
  let DCR0 : Df l.prog w K mg base 5 "check_rows" ["rows", "unknowns"] (spChkR0 a0) := ⟨fchr, _, ok_chkR0 (C := D) T kn DL0 DRW Fchr, PySem.W.mg_of X G achr, kchr, bchr⟩
  let MP : MkP l.prog w K mg base D := ⟨fpin, _, es1, ⟨mkB, apin, ipin, kcB⟩, ok_initP T Zc DI DCR DA_ DAS Fpin, p2⟩
  let M1 : MkP0 l.prog w K mg base D MP.f := ⟨_, a0, es1, ok_initP0 T kn Zc DI DCR0 DA_ DAS Fpin, p1, w1⟩
  let DP_unk : Pr l.prog w K mg base D 1 "unknowns" (spUnk D) := ⟨punk, funk, _, ok_unk T Funk, ⟨aunk, gunk, tunk, _, runk⟩, bunk, T.kP.cl⟩
  let M_rows : Mt l.prog w K mg base D 1 1 "rows" ["self"] (spRws D) := ⟨fprw, _, ok_rws T Fprw, ⟨aprw, iprw, kprw⟩, bprw, T.kP.cl⟩
  let M_len : Mt l.prog w K mg base D 1 1 "__len__" ["self"] (spLen D) := ⟨fpln, _, ok_len T Fpln, ⟨apln, ipln, kpln⟩, bpln, T.kP.cl⟩
  let M_chk : Mt l.prog w K mg base D 1 4 "_check_position" ["self", "position"] (spCP D) := ⟨fpck, _, ok_chkP T DPB Fpck, ⟨apck, ipck, kpck⟩, bpck, T.kP.cl⟩
  let M_get : Mt l.prog w K mg base D 1 5 "__getitem__" ["self", "at"] (spGet D) := ⟨fpgt, _, ok_get T M_chk Fpgt, ⟨apgt, ipgt, kpgt⟩, bpgt, T.kP.cl⟩
  let M_add : Mt l.prog w K mg base D 1 8 "__add__" ["self", "other"] (spAddP D) := ⟨fpad, _, ok_addP T MP M_rows DRW Fpad, ⟨apad, ipad, kpad⟩, bpad, T.kP.cl⟩
  let M_wo : Mt l.prog w K mg base D 1 8 "without" ["self", "position"] (spWo D) := ⟨fpwo, _, ok_wo T MP M_rows M_chk Fpwo, ⟨apwo, ipwo, kpwo⟩, bpwo, T.kP.cl⟩
  let M_wb : Mt l.prog w K mg base D 1 8 "with_bound" ["self", "position", "number"] (spWb D) := ⟨fpwb, _, ok_wb T MP M_rows M_chk DCN Fpwb, ⟨apwb, ipwb, kpwb⟩, bpwb, T.kP.cl⟩
  let M_sums : Mt l.prog w K mg base D 1 7 "sums" ["self", "values"] (spSums D) := ⟨fpsu, _, ok_sums T DAN DPR Fpsu, ⟨apsu, ipsu, kpsu⟩, bpsu, T.kP.cl⟩
  let M_eq : Mt l.prog w K mg base D 1 6 "__eq__" ["self", "other"] (spEqP D) := ⟨fpeq, _, ok_eqP T ME Fpeq, ⟨apeq, ipeq, kpeq⟩, bpeq, T.kP.cl⟩
  let M_repr : MtG l.prog w K mg base D 1 7 "__repr__" ["self"] (spReprP D) := ⟨fprp, _, ok_reprP T M_rows MR_ Fprp, ⟨aprp, iprp, kprp⟩, bprp, T.kP.cl⟩
  let LD : Df l.prog w K mg base 1 "_law_draw" ["_law_pot_here", "_law_size"] (spDraw D) := ⟨fdra, _, ok_draw T Fdra, PySem.W.mg_of X G adra, kdra, bdra⟩
  let LP : Df l.prog w K mg base 2 "_law_pick" ["_law_pot_here", "_law_some"] (spPick D) := ⟨fpic, _, ok_pick T LD Fpic, PySem.W.mg_of X G apic, kpic, bpic⟩
  let LPV : Df l.prog w K mg base 2 "_law_pick" ["_law_pot_here", "_law_some"] spPickV := ⟨fpic, _, ok_pickV T LD Fpic, PySem.W.mg_of X G apic, kpic, bpic⟩
  let LL : Df l.prog w K mg base 1 "_law_low" ["_law_above", "_law_below"] (spLow D) := ⟨flow, _, ok_low T Flow, PySem.W.mg_of X G alow, klow, blow⟩
  let LPR : Df l.prog w K mg base 3 "_law_pair" ["_law_number_here"] (spPair D) := ⟨fpai, _, ok_pair T DP_top DP_bottom Fpai, PySem.W.mg_of X G apai, kpai, bpai⟩
  let LPL : Df l.prog w K mg base 2 "_law_plus" ["_law_one", "_law_other"] (spPB D (· + ·)) := ⟨fplu, _, ok_plus LL Fplu, PySem.W.mg_of X G aplu, kplu, bplu⟩
  let LT : Df l.prog w K mg base 2 "_law_times" ["_law_one", "_law_other"] (spPB D (· * ·)) := ⟨ftim, _, ok_times LL Ftim, PySem.W.mg_of X G atim, ktim, btim⟩
  let LDT : Df l.prog w K mg base 4 "_law_dot" ["_law_some", "_law_others"] (spDot D) := ⟨fdot, _, ok_dot T LPR LPL LT Fdot, PySem.W.mg_of X G adot, kdot, bdot⟩
  let LN : Df l.prog w K mg base 4 "_law_number" ["_law_pot_here", "_law_most"] (spNum D) := ⟨fnum, _, ok_num T MR LD LP Fnum, PySem.W.mg_of X G anum, knum, bnum⟩
  let LR : Df l.prog w K mg base 5 "_law_rows" ["_law_pot_here", "_law_many", "_law_most"] (spRowsL D) := ⟨flrw, _, ok_rowsL T LD LP LN Flrw, PySem.W.mg_of X G alrw, klrw, blrw⟩
  let LS : Dg l.prog w K mg base 8 "_law_shown" ["_law_rows_here"] (spShown D) := ⟨fsho, _, ok_shown T MR LPR MR_ Fsho, PySem.W.mg_of X G asho, ksho, bsho⟩
  let LPO : Df l.prog w K mg base 1 "_law_pot" ["_law_script", "_law_k"] (spPot K) := ⟨fpot, _, ok_pot (C := D) T Fpot, PySem.W.mg_of X G apot, kpot, bpot⟩
  have KB_sums : KBn K M_sums.fd ["self", "values"] 1 ["values"] (fun us ws => us ++ ws) (fun vs zs => vs ++ zs) := ⟨fun s us ws _ h1 h2 => match us, ws, h1, h2 with | [_], [_], _, _ => .of_eq rfl, fun r1 r2 => r1.append r2⟩
  have KB_wo : KBn K M_wo.fd ["self", "position"] 1 ["position"] (fun us ws => us ++ ws) (fun vs zs => vs ++ zs) := ⟨fun s us ws _ h1 h2 => match us, ws, h1, h2 with | [_], [_], _, _ => .of_eq rfl, fun r1 r2 => r1.append r2⟩
  have KB_wb : KBn K M_wb.fd ["self", "position", "number"] 1 ["number", "position"] (fun us ws => us ++ ws.reverse) swV := ⟨fun s us ws _ h1 h2 => match us, ws, h1, h2 with | [_], [_, _], _, _ => .of_eq rfl, fun r1 r2 => r1.append (vals_rev r2)⟩
  let LI : Dg l.prog w K mg base 10 "_law_is" ["_law_pot_here", "_law_program", "_law_many", "_law_rows_here"] (spIs D) := ⟨flis, _, ok_is T MP DP_unk M_len M_rows M_get M_eq M_repr M_sums KB_sums MR_ fG ne hmoB LS LN LDT LPR Flis, PySem.W.mg_of X G alis, klis, blis⟩
  let LPA : Dg l.prog w K mg base 11 "_law_parts_right" ["_law_pot_here", "_law_many", "_law_rows_here"] (spPa D) := ⟨fpar, _, ok_pa T Zc MP M1 kkw M_rows M_get M_eq M_repr MR_ fG ne hmoB nf LS LI Fpar, PySem.W.mg_of X G apar, kpar, bpar⟩
  let LC : Df l.prog w K mg base 10 "_law_changed" ["_law_pot_here", "_law_program", "_law_many", "_law_rows_here"] (spCh D) := ⟨fcha, _, ok_ch T M_wo M_wb M_add KB_wo KB_wb sfB LD LP LPV LN Fcha, PySem.W.mg_of X G acha, kcha, bcha⟩
  let LRI : Dg l.prog w K mg base 12 "_law_right" ["_law_pot_here"] (spRi D) := ⟨frig, _, ok_ri T MP M_wo M_wb LD LR LPA LI LC Frig, PySem.W.mg_of X G arig, krig, brig⟩
  exact ok_law T LPO LRI Flaw
end K13
namespace K13
open PySem L2 GX KM
theorem walk {l : PySem.W.OpenLaw} {q : Program} {loose : List Str} {XP : (Str → Option Value) → Heap → Prop} {YP : World → Heap → Prop} {d : DefRec} {K : Params → PySem.W.Frag} (hn : l.most = some 63) (hdf : d.params.defaults = [])
    (hY : ∀ (w : World) (h : Heap), YP w h → (K w.params).In h)
    (F : ∀ (w : World) (mg : Str → Option Value) (fa : Addr) (h : Heap), (K w.params).In h → h.Ns mainGlobals mg → mg d.name = some (.ref fa) →
      ∃ fd : FuncData, (∀ (s : Shared) (u : Value), BindsTo s fd ⟨[u], []⟩ [("_law_script", u)]) ∧ ∀ base : Heap, (K w.params).In base → base.Ns mainGlobals mg → FnG l.prog w (K w.params) mg base CX0 13 fa fd ["_law_script"] (spLaw (K w.params))) :
    PySem.W.WalkO q loose XP YP l.row.toRowW d [] (fun f vs => PySem.call f vs) :=
  GX.walk_ofG (n := 63) (k := 13) (x := "_law_script") (CX := fun _ => CX0) (sp := fun w => spLaw (K w.params)) hn (by decide) hdf ⟨rfl, by decide, by decide⟩ hY F (fun _ _ a ns hl _ _ hS => ⟨a, ns, rfl, hS, hl, fun _ => rfl⟩) fun _ _ _ _ _ z => z
end K13
open PySem PySem.W PyProof.Rows
set_option maxRecDepth 100000 in
set_option maxHeartbeats 0 in
theorem PySem.Challenge.cw_heardquotes_k13_whole_programs_made_holds : PySem.Challenge.rw_heardquotes_k13_whole_programs_made.Holds := by
  w_on; o_law; k_head; (case hw => w_witness2)
  k_fill
  refine K13.walk (l := PySem.Challenge.rw_heardquotes_k13_whole_programs_made) rfl rfl (fun w h Y => PySem.W.kIn_of Y) ?F
  case F =>
    intro w mg fa h KX G hmg
    refine' K13.all_mk KX G hmg ?aC ?aB ?aisI ?lisI ?cisI ?kisI ?aisC ?lisC ?cisC ?kisC ?aisL ?lisL ?cisL ?kisL ?aipb ?lipb ?cipb ?kipb ?aisN ?lisN ?cisN ?kisN ?achk ?lchk ?cchk ?kchk ?aasR ?lasR ?casR ?kasR ?aaRs ?laRs ?caRs ?kaRs ?aarN ?larN ?carN ?karN ?aprd ?lprd ?cprd ?kprd ?aisr ?lisr ?cisr ?kisr ?achr ?lchr ?cchr ?kchr ?adra ?ldra ?cdra ?kdra ?apic ?lpic ?cpic ?kpic ?alow ?llow ?clow ?klow ?apai ?lpai ?cpai ?kpai ?aplu ?lplu ?cplu ?kplu ?atim ?ltim ?ctim ?ktim ?adot ?ldot ?cdot ?kdot ?anum ?lnum ?cnum ?knum ?alrw ?llrw ?clrw ?klrw ?asho ?lsho ?csho ?ksho ?apot ?lpot ?cpot ?kpot ?alis ?llis ?clis ?klis ?apar ?lpar ?cpar ?kpar ?acha ?lcha ?ccha ?kcha ?arig ?lrig ?crig ?krig ?alaw ?llaw ?claw ?klaw ?aadd ?iadd ?ladd ?cadd ?kadd ?amul ?imul ?lmul ?cmul ?kmul ?aequ ?iequ ?lequ ?cequ ?kequ ?arep ?irep ?lrep ?crep ?krep ?aprw ?iprw ?lprw ?cprw ?kprw ?apln ?ipln ?lpln ?cpln ?kpln ?apgt ?ipgt ?lpgt ?cpgt ?kpgt ?apad ?ipad ?lpad ?cpad ?kpad ?apwo ?ipwo ?lpwo ?cpwo ?kpwo ?apwb ?ipwb ?lpwb ?cpwb ?kpwb ?apsu ?ipsu ?lpsu ?cpsu ?kpsu ?apeq ?ipeq ?lpeq ?cpeq ?kpeq ?aprp ?iprp ?lprp ?cprp ?kprp ?apck ?ipck ?lpck ?cpck ?kpck ?fG ?atop ?gtop ?ttop ?rtop ?ltop ?ctop ?ktop ?abot ?gbot ?tbot ?rbot ?lbot ?cbot ?kbot ?aunk ?gunk ?tunk ?runk ?lunk ?cunk ?kunk ?rdB ?gaB ?qU ?qR ?aini ?iini ?lini ?cini ?kini ?lT ?apin ?ipin ?lpin ?cpin ?kpin ?lU ?l0 ?pgC ?hdC ?poC ?saC ?mkC ?kcC ?hclC ?hmoC ?isC ?tyC ?sfC ?siC ?pgB ?hdB ?poB ?saB ?mkB ?kcB ?hclB ?hmoB ?isB ?tyB ?sfB ?siB ?hT0 ?nB ?hU0 ?hR0 ?gcd ?hcg ?htk ?ne ?sCi ?stB ?slB ?snB ?ssB ?rmC ?f1mu ?f2mu ?z_isinstance ?z_int ?z_bool ?z_list ?z_tuple ?z_len ?z_repr ?z_all ?z_any ?z_abs ?z_max ?z_min ?z_divmod ?z_range ?z_zip ?z_enumerate
    (case aC => k_is)
    (case aB => k_is)
    (case aisI => k_is)
    (case lisI => k_is)
    (case cisI => k_is)
    (case kisI => k_is)
    (case aisC => k_is)
    (case lisC => k_is)
    (case cisC => k_is)
    (case kisC => k_is)
    (case aisL => k_is)
    (case lisL => k_is)
    (case cisL => k_is)
    (case kisL => k_is)
    (case aipb => k_is)
    (case lipb => k_is)
    (case cipb => k_is)
    (case kipb => k_is)
    (case aisN => k_is)
    (case lisN => k_is)
    (case cisN => k_is)
    (case kisN => k_is)
    (case achk => k_is)
    (case lchk => k_is)
    (case cchk => k_is)
    (case kchk => k_is)
    (case aasR => k_is)
    (case lasR => k_is)
    (case casR => k_is)
    (case kasR => k_is)
    (case aaRs => k_is)
    (case laRs => k_is)
    (case caRs => k_is)
    (case kaRs => k_is)
    (case aarN => k_is)
    (case larN => k_is)
    (case carN => k_is)
    (case karN => k_is)
    (case aprd => k_is)
    (case lprd => k_is)
    (case cprd => k_is)
    (case kprd => k_is)
    (case aisr => k_is)
    (case lisr => k_is)
    (case cisr => k_is)
    (case kisr => k_is)
    (case achr => k_is)
    (case lchr => k_is)
    (case cchr => k_is)
    (case kchr => k_is)
    (case adra => k_is)
    (case ldra => k_is)
    (case cdra => k_is)
    (case kdra => k_is)
    (case apic => k_is)
    (case lpic => k_is)
    (case cpic => k_is)
    (case kpic => k_is)
    (case alow => k_is)
    (case llow => k_is)
    (case clow => k_is)
    (case klow => k_is)
    (case apai => k_is)
    (case lpai => k_is)
    (case cpai => k_is)
    (case kpai => k_is)
    (case aplu => k_is)
    (case lplu => k_is)
    (case cplu => k_is)
    (case kplu => k_is)
    (case atim => k_is)
    (case ltim => k_is)
    (case ctim => k_is)
    (case ktim => k_is)
    (case adot => k_is)
    (case ldot => k_is)
    (case cdot => k_is)
    (case kdot => k_is)
    (case anum => k_is)
    (case lnum => k_is)
    (case cnum => k_is)
    (case knum => k_is)
    (case alrw => k_is)
    (case llrw => k_is)
    (case clrw => k_is)
    (case klrw => k_is)
    (case asho => k_is)
    (case lsho => k_is)
    (case csho => k_is)
    (case ksho => k_is)
    (case apot => k_is)
    (case lpot => k_is)
    (case cpot => k_is)
    (case kpot => k_is)
    (case alis => k_is)
    (case llis => k_is)
    (case clis => k_is)
    (case klis => k_is)
    (case apar => k_is)
    (case lpar => k_is)
    (case cpar => k_is)
    (case kpar => k_is)
    (case acha => k_is)
    (case lcha => k_is)
    (case ccha => k_is)
    (case kcha => k_is)
    (case arig => k_is)
    (case lrig => k_is)
    (case crig => k_is)
    (case krig => k_is)
    (case alaw => k_is)
    (case llaw => k_is)
    (case claw => k_is)
    (case klaw => k_is)
    (case aadd => k_is)
    (case iadd => k_is)
    (case ladd => k_is)
    (case cadd => k_is)
    (case kadd => k_is)
    (case amul => k_is)
    (case imul => k_is)
    (case lmul => k_is)
    (case cmul => k_is)
    (case kmul => k_is)
    (case aequ => k_is)
    (case iequ => k_is)
    (case lequ => k_is)
    (case cequ => k_is)
    (case kequ => k_is)
    (case arep => k_is)
    (case irep => k_is)
    (case lrep => k_is)
    (case crep => k_is)
    (case krep => k_is)
    (case aprw => k_is)
    (case iprw => k_is)
    (case lprw => k_is)
    (case cprw => k_is)
    (case kprw => k_is)
    (case apln => k_is)
    (case ipln => k_is)
    (case lpln => k_is)
    (case cpln => k_is)
    (case kpln => k_is)
    (case apgt => k_is)
    (case ipgt => k_is)
    (case lpgt => k_is)
    (case cpgt => k_is)
    (case kpgt => k_is)
    (case apad => k_is)
    (case ipad => k_is)
    (case lpad => k_is)
    (case cpad => k_is)
    (case kpad => k_is)
    (case apwo => k_is)
    (case ipwo => k_is)
    (case lpwo => k_is)
    (case cpwo => k_is)
    (case kpwo => k_is)
    (case apwb => k_is)
    (case ipwb => k_is)
    (case lpwb => k_is)
    (case cpwb => k_is)
    (case kpwb => k_is)
    (case apsu => k_is)
    (case ipsu => k_is)
    (case lpsu => k_is)
    (case cpsu => k_is)
    (case kpsu => k_is)
    (case apeq => k_is)
    (case ipeq => k_is)
    (case lpeq => k_is)
    (case cpeq => k_is)
    (case kpeq => k_is)
    (case aprp => k_is)
    (case iprp => k_is)
    (case lprp => k_is)
    (case cprp => k_is)
    (case kprp => k_is)
    (case apck => k_is)
    (case ipck => k_is)
    (case lpck => k_is)
    (case cpck => k_is)
    (case kpck => k_is)
    (case fG => k_is)
    (case atop => k_is)
    (case gtop => k_is)
    (case ttop => k_is)
    (case rtop => k_is)
    (case ltop => k_is)
    (case ctop => k_is)
    (case ktop => k_is)
    (case abot => k_is)
    (case gbot => k_is)
    (case tbot => k_is)
    (case rbot => k_is)
    (case lbot => k_is)
    (case cbot => k_is)
    (case kbot => k_is)
    (case aunk => k_is)
    (case gunk => k_is)
    (case tunk => k_is)
    (case runk => k_is)
    (case lunk => k_is)
    (case cunk => k_is)
    (case kunk => k_is)
    (case rdB => k_is)
    (case gaB => k_is)
    (case qU => k_is)
    (case qR => k_is)
    (case aini => k_is)
    (case iini => k_is)
    (case lini => k_is)
    (case cini => k_is)
    (case kini => k_is)
    (case lT => k_is)
    (case apin => k_is)
    (case ipin => k_is)
    (case lpin => k_is)
    (case cpin => k_is)
    (case kpin => k_is)
    (case lU => k_is)
    (case l0 => k_is)
    (case pgC => k_is)
    (case hdC => k_is)
    (case poC => k_is)
    (case saC => k_is)
    (case mkC => k_is)
    (case kcC => k_is)
    (case hclC => k_is)
    (case hmoC => k_is)
    (case isC => k_is)
    (case tyC => k_is)
    (case sfC => k_is)
    (case siC => k_is)
    (case pgB => k_is)
    (case hdB => k_is)
    (case poB => k_is)
    (case saB => k_is)
    (case mkB => k_is)
    (case kcB => k_is)
    (case hclB => k_is)
    (case hmoB => k_is)
    (case isB => k_is)
    (case tyB => k_is)
    (case sfB => k_is)
    (case siB => k_is)
    (case hT0 => k_is)
    (case nB => k_is)
    (case hU0 => k_is)
    (case hR0 => k_is)
    (case gcd => k_is)
    (case hcg => k_is)
    (case htk => k_is)
    (case ne => k_is)
    (case sCi => k_is)
    (case stB => k_is)
    (case slB => k_is)
    (case snB => k_is)
    (case ssB => k_is)
    (case rmC => k_is)
    (case f1mu => k_is)
    (case f2mu => k_is)
    (case z_isinstance => k_is)
    (case z_int => k_is)
    (case z_bool => k_is)
    (case z_list => k_is)
    (case z_tuple => k_is)
    (case z_len => k_is)
    (case z_repr => k_is)
    (case z_all => k_is)
    (case z_any => k_is)
    (case z_abs => k_is)
    (case z_max => k_is)
    (case z_min => k_is)
    (case z_divmod => k_is)
    (case z_range => k_is)
    (case z_zip => k_is)
    (case z_enumerate => k_is)
