import PyProof.Rows.All
import Wide.All
import OpenK.AllK
import Wide.FinOn
import PyProof.EqAt
import PyProof.EqKinds
import PyProof.TupleCall
import HandS.Base
import HandS.Call
import HandS.List
import HandS.Comp
import HandS.Ends
import HandS.EndBits
import HandS.Words
import HandS.OwnEq
import HandS.Defaults
import HandS.ClsMeth
import KE.KOpsOwn
import KE.KCallOwn
import PyProof.InstNe
import HandS.MakeKwOnly
import HandS.Property
import HandS.IsInst
import HandS.Gcd
import HandS.Wide
import HandS.WideBits
import HandS.Style
import HandS.FStr
import HandS.Evl
import HandS.MakeKw
import KE.KxLen
import HandS.WordsList
import PyProof.ReprLen
import PySem.Challenge.RW_heardquotes_k11_whole_ratios_reckoned
set_option Elab.async false
set_option linter.all false
set_option maxRecDepth 100000
set_option maxHeartbeats 4000000
/-! A def's promise where no repr is under way: guards told. -/
namespace GX
open PySem PySem.Spec PyProof.Rows L2
/-- as FnOk, of arounds in which no container is being shown -/
structure FnG (P : Program) (w : World) (K : PySem.W.Frag) (mg : Str → Option Value)
    (base : Heap) (CX : CXT) (k : Nat) (f : Addr) (fd : FuncData) (ps : List Str) (sp : Sp) : Prop where
  len : ∀ vs H Q E, sp vs H Q E → vs.length = ps.length
  run : ∀ (A : Around) (outer : List Env) (s : Shared) (H : Hp) (args : Args)
    (us : List Value) (vs : List V) (Q : VK) (E : XK), A.guards = some [] → Room k A →
    Env0 P w K mg base A outer s H → BindsTo s fd args (ps.zip us) → Vals vs us → sp vs H Q E →
    codeAny (model P w) A (.call (.ref f) args) (CR CX outer P w H s Q E) s

theorem FnG.of {P : Program} {w : World} {K : PySem.W.Frag} {mg : Str → Option Value} {base : Heap}
    {CX : CXT} {k : Nat} {f : Addr} {fd : FuncData} {ps : List Str} {sp : Sp}
    (F : FnOk P w K mg base CX k f fd ps sp) : FnG P w K mg base CX k f fd ps sp :=
  ⟨F.len, fun A o s H a us vs Q E _ hr e b v h => F.run A o s H a us vs Q E hr e b v h⟩

theorem fn_ofG {CX : CXT} {P : Program} {w : World} {K : PySem.W.Frag} {mg : Str → Option Value}
    {base : Heap} {k : Nat} {f : Addr} {name qual : Str} {params : Arguments} {body : List Stmt}
    {scope : Scope} {dV kV doc pm cdv ct oc : Value} {an od : Option Addr}
    {osl : Array (Option Value)} {N ps : List Str} {sp : Sp}
    (lk : K.lookup f = some ⟨oc, od, .func (PySem.W.fnOf name qual params body scope dV kV doc pm an cdv ct), osl⟩)
    (hcd : PySem.W.codeIn K cdv qual = true) (S : FnScope N ps scope)
    (len : ∀ vs H Q E, sp vs H Q E → vs.length = ps.length)
    (hbody : ∀ (A : Around) (outer : List Env) (s : Shared) (H : Hp) (vs : List V) (Q : VK) (E : XK),
      A.guards = some [] → Room k (A.deeper (envOfC qual scope s.heap.objs.size f cdv)) → sp vs H Q E →
      ∃ t, PSs (cxOf CX P w K mg base N qual scope f cdv A outer s H E) body t ∧
        t { nx := fun _ H' => Q .non H', rt := Q } (start N vs) H) :
    FnG P w K mg base CX (k + 1) f (PySem.W.fnOf name qual params body scope dV kV doc pm an cdv ct) ps sp := by
  constructor
  · exact len
  intro A outer s H args us vs Q E gd hr e0 hb r hsp
  have below : ∀ b o, base.get? b = some o → s.heap.get? b = some o := fun b o e => (e0.bs b o e).1
  have kin := e0.mod.kin.keeps below
  have nol := e0.mod.nolimit.keeps below
  have kinds : ∀ y ∈ ps.zip us, scope.names.lookup y.1 = some .local ∨
      (scope.names.lookup y.1 = some .cell ∧
        ((cellsFrom (s.heap.objs.size + 1) scope.names []).lookup y.1).isSome = true) := by
    rintro ⟨n, v⟩ hy
    cases S.par n (List.of_mem_zip hy).1 with
    | inl q => exact .inl q
    | inr q => exact .inr ⟨q, PySem.W.cellsFrom_some _ _ _ (.inl q)⟩
  apply codeAny_call_function hr.depth (kin _ _ lk) rfl S.co S.gen rfl (PySem.W.codeRec_of kin hcd)
  apply hb
  apply wpAny_newFunctionEnv_cells S.kind kinds
  intro env he s1 x
  subst he
  refine ⟨nol.keeps x.toInCall.keep, ?_⟩
  apply codeAny_func
  obtain ⟨t, ht, hq⟩ := hbody A outer s H vs Q E gd (hr.deeper _) hsp
  have I0 := inv_start (CX := CX) (E := E) S hr.hd e0 (len _ _ _ _ hsp) r x
  apply wpAny_mono (ht.run [] s1 (start N vs) H _ I0 hq)
  · intro fl s' hs
    cases fl with
    | ret u =>
      obtain ⟨v, σ', H', J, rv, q⟩ := hs
      exact ⟨v, H', J.os, J.bare, J.base, J.hok, rv, q⟩
    | next =>
      obtain ⟨σ', H', J, q⟩ := hs
      exact ⟨V.non, H', J.os, J.bare, J.base, J.hok, rfl, q⟩
    | brk => obtain ⟨_, _, _, q⟩ := hs; exact q.elim
    | cont => obtain ⟨_, _, _, q⟩ := hs; exact q.elim
  · intro e s' hs
    exact hs

section
variable {P : Program} {w : World} {K : PySem.W.Frag} {mg : Str → Option Value} {base : Heap}
/-- a def of the text that lets nothing out -/
theorem okG {x qual : Str} {st : Stmt} {f : Addr} {fd : FuncData} {N ps : List Str} {k : Nat} {sp : Sp}
    (F : Fun K x qual st f fd) (S : FnScope N ps (defScope st))
    (len : ∀ vs H Q E, sp vs H Q E → vs.length = ps.length)
    (hbody : ∀ (cdv : Value) (A : Around) (outer : List Env) (s : Shared) (H : Hp) (vs : List V) (Q : VK) (E : XK),
      A.guards = some [] → Room k (A.deeper (envOfC qual (defScope st) s.heap.objs.size f cdv)) → sp vs H Q E →
      ∃ t, PSs (cxOf CX0 P w K mg base N qual (defScope st) f cdv A outer s H E).nox (defBody st) t ∧
        t { nx := fun _ H' => Q .non H', rt := Q } (start N vs) H) :
    FnG P w K mg base CX0 (k + 1) f fd ps sp := by
  obtain ⟨oc, od, kV, doc, pm, an, cdv, ct, osl, rfl, lk, hcd⟩ := F.ex
  apply fn_ofG lk hcd S len
  intro A outer s H vs Q E gd hr hsp
  obtain ⟨t, h, q⟩ := hbody cdv A outer s H vs Q E gd hr hsp
  exact ⟨t, h.nox, q⟩
end

section
variable {X : Cx} {CX : CXT} {k : Nat} {f : Addr} {fd : FuncData} {ps : List Str} {sp : Sp} {dvs : List V}
  {ds : List Value} {E : XK} {x : Str} {p pos : Pos} {e : Expr} {es : List Expr} {t : TA}
theorem run_fnG {pins : List (Addr × Obj)} {σ : L2.St} {H : Hp} {s : Shared} {Q : VK} {us : List Value} {vs : List V}
    (F : FnG X.prog X.w X.K X.mg X.base CX k f fd ps sp) (gd : X.A.guards = some []) (hr : Room k X.A)
    (hb : Binds X.K fd ps ds) (hd : Vals dvs ds) (hx : Passes CX X E) (I : Inv X pins σ H s) (r : Vals vs us)
    (h : sp (vs ++ dvs) H Q E) : wpAny (model X.prog X.w) X.A (call (.ref f) us) (EP X pins σ Q) X.xe s := by
  have ra := r.append hd
  have le : (us ++ ds).length = ps.length := ra.length ▸ F.len _ _ _ _ h
  apply wpAny_call
  apply codeAny_mono (F.run X.A X.stack s H ⟨us, []⟩ (us ++ ds) (vs ++ dvs) Q E gd hr I.env0 (hb s us I.kIn le) ra h)
  intro c s' hq
  match c, hq with
  | .error e, hq => exact hx pins σ H s e s' I hq
  | .ok (.ret u), hq => exact I.after hq
  | .ok .next, hq => exact hq.elim
  | .ok .brk, hq => exact hq.elim
  | .ok .cont, hq => exact hq.elim

theorem pe_callG (F : FnG X.prog X.w X.K X.mg X.base CX k f fd ps sp) (gd : X.A.guards = some []) (hr : Room k X.A)
    (hg : Gl X x) (hm : X.mg x = some (.ref f)) (hk : PySem.W.keepIn X.K (.ref f) = true)
    (hb : Binds X.K fd ps ds) (hd : Vals dvs ds) (hx : Passes CX X E) (ha : PA X (e :: es) t)
    (hdb : (x == ("__debug__" : Str)) = false := by decide)
    (he : starEach (e :: es) X.env = (false, eval e X.env) :: starEach es X.env := by rfl)
    (hpl : (backTo pos (starEach es X.env)).any (·.1) = false := by rfl) :
    PE X (.Call (.Name x p) (e :: es) [] pos) (tCall sp dvs E t) := by
  constructor
  intro pins s σ H Q I h
  apply wpAny_Call_Name_kw
  apply ld_glob I hg hm _ hdb
  apply PySem.W.callWith_K (h₀ := X.base) I.ok.mod.kin hk _ he hpl
  apply thn (ha.run pos pins s σ H _ I h)
  rintro us s1 ⟨vs, H1, I1, r, q⟩
  exact ⟨I1.kIn, run_fnG F gd hr hb hd hx I1 r q⟩
end

/-- what may stand in the heap when the law is called: nothing but the script -/
theorem law_callG {P : Program} {w : World} {K : PySem.W.Frag} {mg mb : Str → Option Value} {CX : CXT} {k : Nat}
    {fa a : Addr} {fd : FuncData} {x : Str} {sp : Sp} {z : Shared} {vs : List Value} {ns : List Int}
    (KX : K.In z.heap) (hns : z.heap.Ns mainGlobals mg) (hb : z.heap.Ns builtinsNs mb)
    (hbb : ∀ x : Str, x ≠ "__name__" → mb x = bootBuiltins x) (hlim : z.heap.NoLimit) (hg : z.gens = #[])
    (ha : z.heap.get? a = some { cls := .type "list", data := .seq vs.toArray }) (hi : IntsAre vs ns)
    (hl : ns.length ≤ sizeLine) (hr : Room k callerA)
    (F : ∀ base : Heap, K.In base → base.Ns mainGlobals mg → FnG P w K mg base CX k fa fd [x] sp)
    (hbind : ∀ (s : Shared) (u : Value), BindsTo s fd ⟨[u], []⟩ [(x, u)])
    (hsp : ∀ H : Hp, Only H → SqL K H a (ns.map V.int) → sp [.ref a] H (fun v _ => v = .bl true) fun _ _ _ => False)
    (hCX : ∀ H e s', CX [] H z (fun _ _ _ => False) e s' → False) :
    codeAny (model P w) callerA (.call (.ref fa) ⟨[.ref a], []⟩)
      (fun r s' => r = .ok (.ret (.bool true)) ∧ OldK z.heap s'.heap ∧ s'.os = z.os ∧ AllBare s'.gens) z := by
  have rel := vals_ints hi
  have len := hi.length
  have main : ∀ H : Hp, Only H → SqL K H a (ns.map V.int) → HOk P w H z.heap → (∀ b, H b ≠ none → b = a) →
      (H a ≠ none → K.lookup a = none) → codeAny (model P w) callerA (.call (.ref fa) ⟨[.ref a], []⟩)
      (fun r s' => r = .ok (.ret (.bool true)) ∧ OldK z.heap s'.heap ∧ s'.os = z.os ∧ AllBare s'.gens) z := by
    intro H hO hS hok hA hK
    have only : ∀ b, b ≠ a → H b = none := fun b hb => Decidable.byContradiction fun n => hb (hA b n)
    have seen : ∀ {b : Addr} {o : Obj}, z.heap.get? b = some o → H b = none → (hidT z.heap H).get? b = some o :=
      fun e n => hidT_get e n
    have nsT : ∀ {b : Addr} {m : Str → Option Value}, z.heap.Ns b m → (hidT z.heap H).Ns b m := by
      rintro b m ⟨o, es, ep, e, d, r⟩
      refine ⟨o, es, ep, seen e (only b fun q => ?_), d, r⟩
      subst q
      rw [ha] at e
      cases e
      cases d
    have kb : K.In (hidT z.heap H) := by
      intro b o e
      apply seen (KX b o e)
      by_cases hb : b = a
      · subst hb
        exact Decidable.byContradiction fun n => by rw [hK n] at e; cases e
      · exact only b hb
    have md : Mod K mg (hidT z.heap H) := by
      obtain ⟨mc, h1, h2⟩ := hlim
      exact ⟨kb, nsT hns, ⟨mb, nsT hb, hbb⟩, ⟨mc, nsT h1, h2⟩⟩
    have e0 : Env0 P w K mg (hidT z.heap H) callerA [] z H := by
      refine ⟨rfl, md, fun b o e => of_hidT e, Nat.le_of_eq (hidT_size _ _), trivial, ?_, hok, .of_eq hg⟩
      intro b hb
      cases (show b ∈ ([] : List Addr) from hb)
    apply codeAny_mono ((F _ kb (nsT hns)).run callerA [] z H ⟨[.ref a], []⟩ [.ref a] [.ref a] _ _ rfl hr e0
      (hbind z (.ref a)) (.cons rfl .nil) (hsp H hO hS))
    intro c s' h
    match c, h with
    | .error e, h => exact (hCX H e s' h).elim
    | .ok .next, h => exact h.elim
    | .ok .brk, h => exact h.elim
    | .ok .cont, h => exact h.elim
    | .ok (.ret u), h =>
      obtain ⟨v, H', os, bare, un, hok', r', q⟩ := h
      have tr : v = .bl true := q
      subst tr
      cases (show u = Value.bool true from r')
      refine ⟨rfl, OldK.of_keep fun b o e => ?_, os, bare⟩
      cases hb : H b with
      | none => exact un.keep b o e hb (fun m => by cases (show b ∈ ([] : List Addr) from m)) (by simp)
      | some u =>
        rcases hO b with n | ⟨ob, xs, n⟩
        · rw [hb] at n; cases n
        · obtain ⟨g1, _⟩ := hok b _ n
          obtain ⟨g2, _⟩ := hok' b _ (un.frzs b ob _ n)
          rw [e] at g1
          cases g1
          exact g2
  cases hk : K.lookup a with
  | some o =>
    have e := KX a o hk
    rw [ha] at e
    cases e
    refine main (fun _ => none) (fun _ => .inl rfl) (.inr ⟨_, vs.toArray, _, hk, rfl, rfl, rfl, ?_, ?_⟩) ?_ ?_ ?_
    · rw [List.size_toArray, len]; exact hl
    · simpa using rel
    · intro b u q
      cases (show (none : Option HO) = some u from q)
    · exact fun b q => absurd rfl q
    · exact fun q => absurd rfl q
  | none =>
    let H0 : Hp := upd (fun _ => none) a (.frz { cls := .type "list", data := .seq vs.toArray } (.lst (ns.map V.int)))
    have ho : ∀ b, b ≠ a → H0 b = none := fun b hb => upd_ne hb
    refine main H0 (fun b => ?_) (.inl (.inr ⟨_, upd_same⟩)) (fun b u q => ?_) (fun b q => ?_) fun _ => hk
    · by_cases hb : b = a
      · subst hb; exact .inr ⟨_, _, upd_same⟩
      · exact .inl (ho b hb)
    · by_cases hb : b = a
      · subst hb
        cases (upd_same.symm.trans q : some _ = some u)
        exact ⟨ha, by rw [List.length_map]; exact hl, vs, _, rel, ha⟩
      · rw [ho b hb] at q; cases q
    · by_cases hb : b = a
      · exact hb
      · exact absurd (ho b hb) q

/-- the end of a law row, the script's bits told, no repr under way -/
theorem walk_ofG {l : PySem.W.OpenLaw} {n k : Nat} {q : Program} {loose : List Str}
    {XP : (Str → Option Value) → Heap → Prop} {YP : World → Heap → Prop} {d : DefRec}
    {K : Params → PySem.W.Frag} {CX : World → CXT} {sp : World → Sp} {x : Str}
    (hn : l.most = some n) (hn2 : n ≤ sizeLine) (hdf : d.params.defaults = []) (hr : Room k callerA)
    (hY : ∀ (w : World) (h : Heap), YP w h → (K w.params).In h)
    (F : ∀ (w : World) (mg : Str → Option Value) (fa : Addr) (h : Heap), (K w.params).In h →
      h.Ns mainGlobals mg → mg d.name = some (.ref fa) →
      ∃ fd : FuncData, (∀ (s : Shared) (u : Value), BindsTo s fd ⟨[u], []⟩ [(x, u)]) ∧ ∀ base : Heap,
        (K w.params).In base → base.Ns mainGlobals mg → FnG l.prog w (K w.params) mg base (CX w) k fa fd [x] (sp w))
    (hsp : ∀ (w : World) (H : Hp) (a : Addr) (ns : List Int), ns.length ≤ n →
      (∀ z ∈ ns, Builtin.Int.intBits z ≤ 1048576) → Only H → SqL (K w.params) H a (ns.map V.int) →
      sp w [.ref a] H (fun v _ => v = .bl true) fun _ _ _ => False)
    (hCX : ∀ (w : World) (H : Hp) (s : Shared) (e : Value) (s' : Shared),
      CX w [] H s (fun _ _ _ => False) e s' → False) :
    PySem.W.WalkO q loose XP YP l.row.toRowW d [] (fun f vs => PySem.call f vs) := by
  apply Att.attach_callB hn hdf
  intro w s₀ s₁ mg mb fa o pm cd doc a vs ns G Y ho hd hcd hmg hobj hints hlen hbits hg
  have kin := hY w _ Y
  obtain ⟨fd, hb, hF⟩ := F w mg fa _ kin G.T.g hmg
  apply law_callG kin G.T.g G.T.b G.T.builtins G.T.nolimit hg hobj hints (Nat.le_trans hlen hn2) hr hF hb
  · exact fun H hO hS => hsp w H a ns hlen hbits hO hS
  · exact fun H e s' => hCX w H s₁ e s'
end GX
/-! Operators of an own class, over the layer. -/
namespace GX
open PySem PySem.Spec PyProof.Rows L2
section
variable {X : Cx} {k : Nat} {f C : Addr} {fd : FuncData} {ps : List Str} {sp : Sp} {E : XK}
  {pins : List (Addr × Obj)} {σ : L2.St} {H : Hp} {s : Shared} {Q : VK} {us : List Value} {vs : List V}

theorem va {a : Addr} (h : Vals vs us) : Vals (.ref a :: vs) (.ref a :: us) := .cons rfl h
theorem vi {i : Int} {t : Tok} (h : Vals vs us) : Vals (.int i :: vs) (.int i t :: us) := .cons ⟨t, rfl⟩ h
/-- what a def that lets nothing out gives back, wherever below the body it is called -/
theorem run_at {A : Around} (sb : Sub X k A) (F : FnOk X.prog X.w X.K X.mg X.base CX0 k f fd ps sp)
    (hb : Binds X.K fd ps []) (I : Inv X pins σ H s) (r : Vals vs us) (h : sp vs H Q E)
    {Ex : Value → Shared → Prop} :
    wpAny (model X.prog X.w) A (call (.ref f) us) (EP X pins σ Q) Ex s := by
  have e := I.env0
  have e0 : Env0 X.prog X.w X.K X.mg X.base A X.stack s H :=
    ⟨by rw [sb.fr]; exact e.frames, e.mod, e.bs, e.bsz, e.funs, e.frf, e.hok, e.bare⟩
  have hl := F.len _ _ _ _ h
  have hl2 : us.length = ps.length := by rw [← r.length]; exact hl
  have hbb := hb s us I.kIn (by simpa using hl2)
  apply wpAny_call
  apply codeAny_mono (F.run A X.stack s H ⟨us, []⟩ us vs Q E sb.room e0 (by simpa using hbb) r h)
  intro c s' hq
  match c, hq with
  | .error e, hq => exact hq.elim
  | .ok (.ret u), hq => exact I.after hq
  | .ok .next, hq => exact hq.elim
  | .ok .brk, hq => exact hq.elim
  | .ok .cont, hq => exact hq.elim

theorem back_of {u : Value} {s' : Shared} (h : EP X pins σ Q u s') : PySem.W.CmpBack (EP X pins σ Q) u s' := by
  obtain ⟨v, H', I, r, q⟩ := h
  cases v with
  | non => cases (show u = Value.none from r); exact ⟨.non, H', I, rfl, q⟩
  | bl b => cases (show u = Value.bool b from r); exact ⟨.bl b, H', I, rfl, q⟩
  | int i => obtain ⟨t, e⟩ := (show ∃ t, u = Value.int i t from r); subst e; exact ⟨.int i, H', I, ⟨_, rfl⟩, q⟩
  | str i => obtain ⟨t, e⟩ := (show ∃ t, u = Value.str i t from r); subst e; exact ⟨.str i, H', I, ⟨_, rfl⟩, q⟩
  | byt i => obtain ⟨t, e⟩ := (show ∃ t, u = Value.bytes i t from r); subst e; exact ⟨.byt i, H', I, ⟨_, rfl⟩, q⟩
  | flt i => obtain ⟨t, e⟩ := (show ∃ t, u = Value.float i t from r); subst e; exact ⟨.flt i, H', I, ⟨_, rfl⟩, q⟩
  | ref a => cases (show u = Value.ref a from r); exact ⟨.ref a, H', I, rfl, q⟩
  | ty a => cases (show u = Value.type a from r); exact ⟨.ty a, H', I, rfl, q⟩

/-- a op b, both of the class at C: its own method -/
def rOwn2 (C : Addr) (sp : Sp) (E : XK) : R2 := fun x y H Q => ∃ a b dx dy fs gs, x = .ref a ∧ y = .ref b ∧
  H a = some (.ins C dx fs) ∧ H b = some (.ins C dy gs) ∧ sp [.ref a, .ref b] H Q E
theorem op_own2 {op : Operator} (F : FnOk X.prog X.w X.K X.mg X.base CX0 k f fd ps sp) (hr : Room k X.A)
    (hb : Binds X.K fd ps []) (hc : PySem.W.selfFirst X.K C = true)
    (hs : PySem.W.findIn X.K (.ref C) (PySem.dunder op.info.2) = some (some (.ref f)))
    (hf : PySem.W.isFn X.K (.ref f) = true) : OpR X (binaryOp op) (rOwn2 C sp E) := by
  intro pins s σ H x y u v Q I rx ry h
  obtain ⟨a, b, dx, dy, fs, gs, rfl, rfl, ha, hb', hq⟩ := h
  cases (show u = Value.ref a from rx)
  cases (show v = Value.ref b from ry)
  obtain ⟨mA, OA, _⟩ := ins_get I.hok ha
  obtain ⟨mB, OB, _⟩ := ins_get I.hok hb'
  obtain ⟨oa, JA, _⟩ := OA.look
  obtain ⟨ob, JB, _⟩ := OB.look
  obtain ⟨m, hF⟩ := I.fr
  apply PySem.W.binop_K hF I.ok.mod.kin JA JB.type hc hs hf
  exact wpAny_mono (run_at ⟨hr, rfl⟩ F hb I (va (va .nil)) hq) (fun _ _ z => back_of z) fun _ _ z => z

/-- a op n, n an int -/
def rOwnN (C : Addr) (sp : Sp) (E : XK) : R2 := fun x y H Q => ∃ a i dx fs, x = .ref a ∧ y = .int i ∧
  H a = some (.ins C dx fs) ∧ sp [.ref a, .int i] H Q E
theorem op_ownN {op : Operator} {fo ro rc : Option Value} (F : FnOk X.prog X.w X.K X.mg X.base CX0 k f fd ps sp)
    (hr : Room k X.A) (hb : Binds X.K fd ps []) (hc : PySem.W.selfFirst X.K C = true)
    (hs : PySem.W.findIn X.K (.ref C) (PySem.dunder op.info.2) = some (some (.ref f)))
    (hf : PySem.W.isFn X.K (.ref f) = true)
    (hr2 : PySem.W.findIn X.K (.ref C) (dunderR op.info.2) = some rc) (hp : rc = none ∨ ∃ g : Addr, rc = some (.ref g))
    (h1 : PySem.W.findIn X.K (.type "int") (PySem.dunder op.info.2) = some fo)
    (h2 : PySem.W.findIn X.K (.type "int") (dunderR op.info.2) = some ro)
    (hsub : PySem.W.subIn X.K (.type "int") (.ref C) = some false) : OpR X (binaryOp op) (rOwnN C sp E) := by
  intro pins s σ H x y u v Q I rx ry h
  obtain ⟨a, i, dx, fs, rfl, rfl, ha, hq⟩ := h
  cases (show u = Value.ref a from rx)
  obtain ⟨t, rfl⟩ := (show ∃ t, v = Value.int i t from ry)
  obtain ⟨mA, OA, _⟩ := ins_get I.hok ha
  obtain ⟨oa, JA, _⟩ := OA.look
  obtain ⟨m, hF⟩ := I.fr
  apply PySem.W.ksp_binT hF I.ok.mod.kin JA (T := "int") rfl hc hs hf hr2 hp h1 h2 hsub
  exact wpAny_mono (run_at ⟨hr, rfl⟩ F hb I (va (vi .nil)) hq) (fun _ _ z => back_of z) fun _ _ z => z

/-- -a -/
def rNeg (C : Addr) (sp : Sp) (E : XK) : V → Hp → VK → Prop := fun x H Q => ∃ a dx fs, x = .ref a ∧
  H a = some (.ins C dx fs) ∧ sp [.ref a] H Q E
theorem un_own (F : FnOk X.prog X.w X.K X.mg X.base CX0 k f fd ps sp) (hr : Room k X.A) (hb : Binds X.K fd ps [])
    (hs : PySem.W.findIn X.K (.ref C) "__neg__" = some (some (.ref f))) (hf : PySem.W.isFn X.K (.ref f) = true) :
    UnR X (unaryOp .USub) (rNeg C sp E) := by
  intro pins s σ H x u Q I rx h
  obtain ⟨a, dx, fs, rfl, ha, hq⟩ := h
  cases (show u = Value.ref a from rx)
  obtain ⟨mA, OA, _⟩ := ins_get I.hok ha
  obtain ⟨oa, JA, _⟩ := OA.look
  obtain ⟨m, hF⟩ := I.fr
  apply PySem.W.ksp_neg hF I.ok.mod.kin JA hs hf
  exact run_at ⟨hr, rfl⟩ F hb I (va .nil) hq

/-- a text comes back -/
def RetS (sp : Sp) (E : XK) (a : Addr) (H : Hp) (Q : VK) : Prop := sp [.ref a] H (fun v H' => ∃ z, v = .str z ∧ Q v H') E
theorem strback_of {u : Value} {s' : Shared} (h : EP X pins σ (fun v H' => ∃ z, v = .str z ∧ Q v H') u s') :
    PySem.W.StrBack (EP X pins σ Q) u s' := by
  obtain ⟨v, H', I, r, z, rfl, q⟩ := h
  obtain ⟨t, e⟩ := (show ∃ t, u = Value.str z t from r)
  subst e
  exact ⟨.str z, H', I, ⟨_, rfl⟩, q⟩
def rStrOwn (C : Addr) (sp : Sp) (E : XK) : List V → Hp → VK → Prop := fun xs H Q => ∃ a dx fs, xs = [.ref a] ∧
  H a = some (.ins C dx fs) ∧ RetS sp E a H Q
theorem cr_strOwn (F : FnOk X.prog X.w X.K X.mg X.base CX0 k f fd ps sp) (hr : Room (k + 2) X.A) (hb : Binds X.K fd ps [])
    (hs : PySem.W.findIn X.K (.ref C) "__str__" = some (some (.ref f))) (hf : PySem.W.isFn X.K (.ref f) = true) :
    CallR X (.type "str") (rStrOwn C sp E) := by
  intro pins s σ H xs us Q I r h
  obtain ⟨a, dx, fs, rfl, ha, hq⟩ := h
  obtain ⟨u, rfl, ru⟩ := vals1 r
  cases (show u = Value.ref a from ru)
  obtain ⟨mA, OA, _⟩ := ins_get I.hok ha
  obtain ⟨oa, JA, _⟩ := OA.look
  apply PySem.W.kso_call hr.in1.in1.units0 I.kIn JA hs hf
  exact wpAny_mono (run_at ⟨hr.in1.in1, rfl⟩ F hb I (va .nil) hq) (fun _ _ z => strback_of z) fun _ _ z => z
theorem cr_reprOwn (F : FnOk X.prog X.w X.K X.mg X.base CX0 k f fd ps sp) (hr : Room (k + 1) X.A) (hb : Binds X.K fd ps [])
    (hs : PySem.W.findIn X.K (.ref C) "__repr__" = some (some (.ref f))) (hf : PySem.W.isFn X.K (.ref f) = true) :
    CallR X (.builtin "repr") (rStrOwn C sp E) := by
  intro pins s σ H xs us Q I r h
  obtain ⟨a, dx, fs, rfl, ha, hq⟩ := h
  obtain ⟨u, rfl, ru⟩ := vals1 r
  cases (show u = Value.ref a from ru)
  obtain ⟨mA, OA, _⟩ := ins_get I.hok ha
  obtain ⟨oa, JA, _⟩ := OA.look
  obtain ⟨m, hF⟩ := I.fr
  apply PySem.W.repr_K hr.in1.units0 hF I.ok.mod.kin JA hs hf
  exact wpAny_mono (run_at ⟨hr.in1, rfl⟩ F hb I (va .nil) hq) (fun _ _ z => strback_of z) fun _ _ z => z
end
end GX
namespace GX
open PySem PySem.Spec PyProof.Rows L2
open AutoSeq1 (wpAny_loadPart')

section
variable {prog : Program} {w : World} {A : Around} {E : Value → Shared → Prop} {s : Shared} {x C dx : Addr} {i : Int} {t : Tok}
theorem dec_add {Q : Fin → Shared → Prop} (ho : s.heap.get? x = some (PySem.W.instObj C dx)) (h : Q (.done (.ret .notImplemented)) s) :
    wpAny (model prog w) A (Builtin.«int.__add__» ⟨[.int i t, .ref x], []⟩) Q E s := by
  obtain ⟨hp, g, d, tk, os⟩ := s
  wp_walk using wpAny_loadPart' ho
  exact h
theorem dec_sub {Q : Fin → Shared → Prop} (ho : s.heap.get? x = some (PySem.W.instObj C dx)) (h : Q (.done (.ret .notImplemented)) s) :
    wpAny (model prog w) A (Builtin.«int.__sub__» ⟨[.int i t, .ref x], []⟩) Q E s := by
  obtain ⟨hp, g, d, tk, os⟩ := s
  wp_walk using wpAny_loadPart' ho
  exact h
theorem dec_mul {Q : Fin → Shared → Prop} (ho : s.heap.get? x = some (PySem.W.instObj C dx)) (h : Q (.done (.ret .notImplemented)) s) :
    wpAny (model prog w) A (Builtin.«int.__mul__» ⟨[.int i t, .ref x], []⟩) Q E s := by
  obtain ⟨hp, g, d, tk, os⟩ := s
  wp_walk using wpAny_loadPart' ho
  exact h
theorem dec_eq {Q : Fin → Shared → Prop} (ho : s.heap.get? x = some (PySem.W.instObj C dx)) (h : Q (.done (.ret .notImplemented)) s) :
    wpAny (model prog w) A (Builtin.«int.__eq__» ⟨[.int i t, .ref x], []⟩) Q E s := by
  obtain ⟨hp, g, d, tk, os⟩ := s
  wp_walk using wpAny_loadPart' ho
  exact h
end

section
variable {prog : Program} {w : World} {A : Around} {E : Value → Shared → Prop} {s : Shared} {K : PySem.W.Frag}
  {x C L f g : Addr} {h₀ : Heap} {m : Str → Option Value} {ox : Obj} {od : Option Obj} {i : Int} {t : Tok} {id : String}
/-- n op x, n an int that declines -/
theorem binR {op : Operator} {Q : Value → Shared → Prop} (F : Fr h₀ L s.heap m) (X₀ : K.In h₀)
    (I : PySem.W.InstAt s.heap x ox C od) (hc : PySem.W.selfFirst K C = true)
    (hs : PySem.W.findIn K (.ref C) (PySem.dunder op.info.2) = some (some (.ref g)))
    (hr : PySem.W.findIn K (.ref C) (dunderR op.info.2) = some (some (.ref f)))
    (hf : PySem.W.isFn K (.ref f) = true)
    (hi : fillsNumberSlot (.type "int") op.info.2 = pure true)
    (sl : Slot "int" (PySem.dunder op.info.2) id)
    (hsub : PySem.W.subIn K (.ref C) (.type "int") = some false)
    (hd : wpAny (model prog w) A (call (.builtin id) [.int i t, .ref x]) (fun v s' => v = .notImplemented ∧ s' = s) E s)
    (h : wpAny (model prog w) A (call (.ref f) [.ref x, .int i t]) (PySem.W.CmpBack Q) E s) :
    wpAny (model prog w) A (binaryOp op (.int i t) (.ref x)) Q E s := by
  have X := X₀.keeps F.keep
  obtain ⟨cd, rest, hcd, hm⟩ := PySem.W.ksp_first hc
  rcases ho : op.info with ⟨sym, nm'⟩
  rw [ho] at hs hr hi sl
  dsimp only at hs hr hi sl
  have one := PySem.W.ksp_try X I hr hf h
  have two : wpAny (model prog w) A (tryMethod (.int i t) (PySem.dunder nm') (.ref x)) (fun r s' => r = none ∧ s' = s) E s :=
    wpAny_tryMethod_declines (typeIs_int s i t) sl (wpAny_mono hd (fun v s' z => ⟨z.1, rfl, z.2⟩) fun _ _ z => z)
  obtain ⟨hh, gg, d, tt, os⟩ := s
  have L1 : PySem.W.Looks (model prog w) hh (typeOf (.ref x)) (.ref C) := I.type
  have L2 : PySem.W.Looks (model prog w) hh (typeOf (.int i t)) (.type "int") := PySem.W.Looks.of_pure rfl
  have L3 : PySem.W.Looks (model prog w) hh (fillsNumberSlot (.ref C) nm') true := PySem.W.fills_K X hcd hm hs
  have L4 : PySem.W.Looks (model prog w) hh (fillsNumberSlot (.type "int") nm') true := PySem.W.Looks.of_pure hi
  have L5 : PySem.W.Looks (model prog w) hh (isSubtype (.ref C) (.type "int")) false := PySem.W.looks_subIn X hsub
  have L7 : PySem.W.Looks (model prog w) hh (numberSlotInPython (.type "int") nm') false := PySem.W.Looks.of_pure rfl
  have hne : (Value.type "int" == Value.ref C) = false := Bool.eq_false_iff.mpr fun q => by cases beq_iff_eq.mp q
  simp only [binaryOp, ho]
  refine wpAny_holding (wpAny_bind ?_)
  unfold binaryOp1
  refine wpAny_bind (L2.at (wpAny_bind (L1.at (wpAny_bind (L4.at ?_)))))
  simp only [hne, Bool.false_eq_true, if_false]
  ksp_lk
  refine wpAny_mono two (fun r s' hr' => ?_) fun _ _ e => e
  obtain ⟨rfl, rfl⟩ := hr'
  ksp_lk
  refine wpAny_mono one (fun r s' hr' => ?_) fun _ _ e => e
  obtain ⟨v, rfl, hq⟩ := hr'
  ksp_lk
  exact hq
end
end GX
namespace GX
open PySem PySem.Spec PyProof.Rows L2
section
variable {prog : Program} {w : World} {A : Around} {E : Value → Shared → Prop} {s : Shared} {K : PySem.W.Frag}
  {x C L f g : Addr} {h₀ : Heap} {m : Str → Option Value} {ox : Obj} {od : Option Obj} {b tb : Value}

/-- a bool comes back -/
def BlBack (Q : Value → Shared → Prop) (v : Value) (s' : Shared) : Prop := ∃ r, v = .bool r ∧ Q (.bool (!r)) s'
theorem neBound {Q : Option Value → Shared → Prop} (hu : A.in1.units < cLine) (X : K.In s.heap)
    (I : PySem.W.InstAt s.heap x ox C od)
    (hn : PySem.W.findIn K (.ref C) "__ne__" = some (some (.builtin "object.__ne__")))
    (hm : PySem.W.mroIn K C (.type "object") = some true)
    (he : PySem.W.findIn K (.ref C) "__eq__" = some (some (.ref f))) (hf : PySem.W.isFn K (.ref f) = true)
    (h : wpAny (model prog w) A.in1 (call (.ref f) [.ref x, b]) (BlBack fun v => Q (some v)) E s) :
    wpAny (model prog w) A (callSpecialIfBound? (.ref x) "__ne__" [b]) Q E s := by
  simp only [callSpecialIfBound?, bindSpecialIfBound?]
  refine wpAny_holding (wpAny_bind (wpAny_bind (wpAny_bind (I.type.here ((PySem.W.looks_findIn X hn).here ?_)))))
  refine wpAny_bind (wpAny_askSetting (wpAny_ite ?_))
  have core : wpAny (model prog w) A (call (.builtin "object.__ne__") [.ref x, b]) (fun v => Q (some v)) E s := by
    refine wpAny_call (codeAny_call_builtin PySem.F.slot_object_ne.plain PySem.F.cmpEntry_ne
      (PySem.W.check_slot (i := "object.__ne__") (owner := "object") (n := "__ne__") (by decide +kernel) (by decide +kernel)
        (I.type.andThen (PySem.W.looks_mroIn X hm)) (PySem.F.cmpArgs_ne _ _) ?_))
    unfold Builtin.«object.__ne__»
    refine wpAny_bind (m := slotArgs "__ne__" 1 _) (wpAny_pure ?_)
    refine wpAny_bind (m := cRoomFor _ _) (wpAny_cRoomFor hu ?_)
    refine wpAny_bind (m := callSpecialIfBound? (.ref x) (Str.ofString "__eq__") _) (PySem.W.ifBound_K X I he hf (wpAny_mono h (fun r s' hq => ?_) fun _ _ y => y))
    obtain ⟨r', rfl, hq⟩ := hq
    exact wpAny_bind (wpAny_truthy_bool (wpAny_pure hq))
  have fin : wpAny (model prog w) A (call (.builtin "object.__ne__") ([.ref x] ++ [b]) >>= fun v => pure (some v)) Q E s :=
    wpAny_bind (wpAny_mono core (fun v s' h' => wpAny_pure h') fun _ _ h' => h')
  have bd := PySem.F.slot_object_ne.bind (.ref x)
  split
  · exact wpAny_bind ((PySem.W.Looks.of_pure bd).here (wpAny_pure (by exact fin)))
  · exact wpAny_tryCatch (wpAny_bind ((PySem.W.Looks.of_pure bd).here (wpAny_pure (by exact fin))))

theorem ne_own {Q : Value → Shared → Prop} (hu : A.units < cLine) (hu1 : A.in1.units < cLine) (X : K.In s.heap)
    (I : PySem.W.InstAt s.heap x ox C od) (hb : PySem.W.Looks (model prog w) s.heap (typeOf b) tb)
    (nf : PySem.W.notFirst K C tb = true)
    (hn : PySem.W.findIn K (.ref C) "__ne__" = some (some (.builtin "object.__ne__")))
    (hm : PySem.W.mroIn K C (.type "object") = some true)
    (he : PySem.W.findIn K (.ref C) "__eq__" = some (some (.ref f))) (hf : PySem.W.isFn K (.ref f) = true)
    (h : wpAny (model prog w) A.in1 (call (.ref f) [.ref x, b]) (BlBack Q) E s) :
    wpAny (model prog w) A (richCompare .NotEq (.ref x) b) Q E s := by
  have one : wpAny (model prog w) A (tryCompare (.ref x) "__ne__" b) (fun r s' => ∃ v, r = some v ∧ Q v s') E s := by
    unfold tryCompare
    refine wpAny_bind (neBound hu1 X I hn hm he hf (wpAny_mono h (fun v s' hv => ?_) fun _ _ e => e))
    obtain ⟨r, rfl, hq⟩ := hv
    exact ⟨r, rfl, wpAny_pure ⟨_, rfl, hq⟩⟩
  unfold richCompare
  simp only [oneThing_ref]
  refine wpAny_holding (wpAny_bind (wpAny_cRoomFor hu ?_))
  refine wpAny_bind (I.type.here (wpAny_bind (hb.here ?_)))
  split
  · rename_i q
    have e : PySem.W.subIn K tb (.ref C) = some false := by
      rcases Bool.or_eq_true_iff.mp nf with e | e
      · rw [beq_iff_eq.mp e] at q; simp at q
      · exact beq_iff_eq.mp e
    refine wpAny_bind ((PySem.W.looks_subIn X e).here ?_)
    simp only [Bool.false_eq_true, if_false]
    refine wpAny_bind (wpAny_mono one (fun r s' z => ?_) fun _ _ e => e)
    obtain ⟨v, rfl, hq⟩ := z
    exact wpAny_pure hq
  · refine wpAny_bind (wpAny_pure ?_)
    simp only [Bool.false_eq_true, if_false]
    refine wpAny_bind (wpAny_mono one (fun r s' z => ?_) fun _ _ e => e)
    obtain ⟨v, rfl, hq⟩ := z
    exact wpAny_pure hq

/-- n == x, n an int -/
theorem eq_intOwn {i : Int} {t : Tok} {dx : Addr} {Q : Value → Shared → Prop} (hu : A.units < cLine) (X : K.In s.heap)
    (I : PySem.W.InstAt s.heap x (PySem.W.instObj C dx) C od)
    (hsub : PySem.W.subIn K (.ref C) (.type "int") = some false)
    (he : PySem.W.findIn K (.ref C) "__eq__" = some (some (.ref f))) (hf : PySem.W.isFn K (.ref f) = true)
    (h : wpAny (model prog w) A (call (.ref f) [.ref x, .int i t]) (PySem.W.CmpBack Q) E s) :
    wpAny (model prog w) A (richCompare .Eq (.int i t) (.ref x)) Q E s := by
  have one : wpAny (model prog w) A (tryCompare (.ref x) "__eq__" (.int i t)) (fun r s' => ∃ v, r = some v ∧ Q v s') E s := by
    unfold tryCompare
    refine wpAny_bind (PySem.W.ifBound_K X I he hf (wpAny_mono h (fun v s' hv => ?_) fun _ _ e => e))
    cases v <;> first | exact hv.elim | exact wpAny_pure ⟨_, rfl, hv⟩
  have two : wpAny (model prog w) A (tryCompare (.int i t) "__eq__" (.ref x)) (fun r s' => r = none ∧ s' = s) E s := by
    refine wpAny_tryCompare_declines (typeIs_int s i t) PySem.F.slot_int_eq ?_
    refine GQ.call_here PySem.F.slot_int_eq (typeIs_int s i t) PySem.F.entry_int_eq (PySem.F.args_int_eq_2 _ _) ?_
    exact dec_eq I.at_ ⟨rfl, rfl, rfl⟩
  unfold richCompare
  have ot : oneThing? .Eq (.int i t) (.ref x) = none := rfl
  simp only [ot]
  refine wpAny_holding (wpAny_bind (wpAny_cRoomFor hu ?_))
  refine wpAny_bind (wpAny_typeOf (typeIs_int s i t) (wpAny_bind (I.type.here ?_)))
  rw [if_pos (by simp)]
  refine wpAny_bind ((PySem.W.looks_subIn X hsub).here ?_)
  simp only [Bool.false_eq_true, if_false]
  refine wpAny_bind (wpAny_mono two (fun r s' z => ?_) fun _ _ e => e)
  obtain ⟨rfl, rfl⟩ := z
  simp only [Bool.not_false, if_true]
  refine wpAny_bind (wpAny_mono one (fun r s' z => ?_) fun _ _ e => e)
  obtain ⟨v, rfl, hq⟩ := z
  exact wpAny_pure hq
end
end GX
namespace GX
open PySem PySem.Spec PyProof.Rows L2
section
variable {X : Cx} {k : Nat} {f g C : Addr} {fd : FuncData} {ps : List Str} {sp : Sp} {E : XK}

/-- n op a, n an int: the reflected method -/
def rNOwn (C : Addr) (sp : Sp) (E : XK) : R2 := fun x y H Q => ∃ i a dx fs, x = .int i ∧ y = .ref a ∧
  H a = some (.ins C dx fs) ∧ sp [.ref a, .int i] H Q E
theorem op_NOwn {op : Operator} {id : String} {B : Builtin} (F : FnOk X.prog X.w X.K X.mg X.base CX0 k f fd ps sp)
    (hr : Room k X.A) (hb : Binds X.K fd ps []) (hc : PySem.W.selfFirst X.K C = true)
    (hs : PySem.W.findIn X.K (.ref C) (PySem.dunder op.info.2) = some (some (.ref g)))
    (hr2 : PySem.W.findIn X.K (.ref C) (dunderR op.info.2) = some (some (.ref f)))
    (hf : PySem.W.isFn X.K (.ref f) = true)
    (hsub : PySem.W.subIn X.K (.ref C) (.type "int") = some false)
    (hi : fillsNumberSlot (.type "int") op.info.2 = pure true)
    (sl : Slot "int" (PySem.dunder op.info.2) id) (en : entryFor table id = some B)
    (ar : ∀ a b, argsOk id ⟨[a, b], []⟩)
    (dec : ∀ {A : Around} {E : Value → Shared → Prop} {s : Shared} {x C dx : Addr} {i : Int} {t : Tok} {Q : Fin → Shared → Prop},
      s.heap.get? x = some (PySem.W.instObj C dx) → Q (.done (.ret .notImplemented)) s →
      wpAny (model X.prog X.w) A (B ⟨[.int i t, .ref x], []⟩) Q E s) : OpR X (binaryOp op) (rNOwn C sp E) := by
  intro pins s σ H x y u v Q I rx ry h
  obtain ⟨i, a, dx, fs, rfl, rfl, ha, hq⟩ := h
  obtain ⟨t, rfl⟩ := (show ∃ t, u = Value.int i t from rx)
  cases (show v = Value.ref a from ry)
  obtain ⟨mA, OA, _⟩ := ins_get I.hok ha
  obtain ⟨oa, JA, _⟩ := OA.look
  obtain ⟨m, hF⟩ := I.fr
  refine binR hF I.ok.mod.kin JA hc hs hr2 hf hi sl hsub ?_ ?_
  · refine GQ.call_here sl (typeIs_int s i t) en (ar _ _) ?_
    exact dec JA.at_ ⟨rfl, rfl⟩
  · exact wpAny_mono (run_at ⟨hr, rfl⟩ F hb I (va (vi .nil)) hq) (fun _ _ z => back_of z) fun _ _ z => z

/-- a == y: the own method; y any value whose type is told -/
def rEqOwn (K : PySem.W.Frag) (C : Addr) (sp : Sp) (E : XK) : R2 := fun x y H Q => ∃ a dx fs, x = .ref a ∧
  H a = some (.ins C dx fs) ∧ ((∃ i, y = .int i) ∨ ∃ b dy gs, y = .ref b ∧ H b = some (.ins C dy gs)) ∧ sp [.ref a, y] H Q E
theorem op_eqOwn (F : FnOk X.prog X.w X.K X.mg X.base CX0 k f fd ps sp)
    (hr : Room k X.A) (hb : Binds X.K fd ps [])
    (hs : PySem.W.findIn X.K (.ref C) "__eq__" = some (some (.ref f)))
    (hf : PySem.W.isFn X.K (.ref f) = true)
    (hn : PySem.W.subIn X.K (.type "int") (.ref C) = some false) : OpR X (compareOp .Eq) (rEqOwn X.K C sp E) := by
  intro pins s σ H x y u v Q I rx ry h
  obtain ⟨a, dx, fs, rfl, ha, hy, hq⟩ := h
  cases (show u = Value.ref a from rx)
  obtain ⟨mA, OA, _⟩ := ins_get I.hok ha
  obtain ⟨oa, JA, _⟩ := OA.look
  obtain ⟨m, hF⟩ := I.fr
  show wpAny (model X.prog X.w) X.A (richCompare .Eq (.ref a) v) (EP X pins σ Q) X.xe s
  have run := wpAny_mono (run_at (Ex := X.xe) ⟨hr, rfl⟩ F hb I (va (.cons ry .nil)) hq) (fun _ _ z => back_of z) fun _ _ z => z
  rcases hy with ⟨i, rfl⟩ | ⟨b, dy, gs, rfl, hb'⟩
  · obtain ⟨t, rfl⟩ := (show ∃ t, v = Value.int i t from ry)
    exact PySem.W.cmp_K (op := .Eq) (tb := .type "int") hr.units0 hF I.ok.mod.kin JA (PySem.W.Looks.of_pure rfl) (by unfold PySem.W.notFirst; rw [hn]; simp) hs hf run
  · cases (show v = Value.ref b from ry)
    obtain ⟨mB, OB, _⟩ := ins_get I.hok hb'
    obtain ⟨ob, JB, _⟩ := OB.look
    exact PySem.W.cmp_K (op := .Eq) (tb := .ref C) hr.units0 hF I.ok.mod.kin JA JB.type (by simp [PySem.W.notFirst]) hs hf run

/-- n == a, n an int -/
theorem op_eqN (F : FnOk X.prog X.w X.K X.mg X.base CX0 k f fd ps sp)
    (hr : Room k X.A) (hb : Binds X.K fd ps [])
    (hs : PySem.W.findIn X.K (.ref C) "__eq__" = some (some (.ref f)))
    (hf : PySem.W.isFn X.K (.ref f) = true)
    (hsub : PySem.W.subIn X.K (.ref C) (.type "int") = some false) : OpR X (compareOp .Eq) (rNOwn C sp E) := by
  intro pins s σ H x y u v Q I rx ry h
  obtain ⟨i, a, dx, fs, rfl, rfl, ha, hq⟩ := h
  obtain ⟨t, rfl⟩ := (show ∃ t, u = Value.int i t from rx)
  cases (show v = Value.ref a from ry)
  obtain ⟨mA, OA, _⟩ := ins_get I.hok ha
  obtain ⟨oa, JA, _⟩ := OA.look
  show wpAny (model X.prog X.w) X.A (richCompare .Eq (.int i t) (.ref a)) (EP X pins σ Q) X.xe s
  refine eq_intOwn hr.units0 I.kIn JA hsub hs hf ?_
  exact wpAny_mono (run_at ⟨hr, rfl⟩ F hb I (va (vi .nil)) hq) (fun _ _ z => back_of z) fun _ _ z => z

/-- a != b, both of the class at C, by its own == -/
def rNeOwn (C : Addr) (sp : Sp) (E : XK) : R2 := fun x y H Q => ∃ a b dx dy fs gs, x = .ref a ∧ y = .ref b ∧
  H a = some (.ins C dx fs) ∧ H b = some (.ins C dy gs) ∧ sp [.ref a, .ref b] H (fun v H' => ∃ r, v = .bl r ∧ Q (.bl (!r)) H') E
theorem op_neOwn (F : FnOk X.prog X.w X.K X.mg X.base CX0 k f fd ps sp)
    (hr : Room (k + 1) X.A) (hb : Binds X.K fd ps [])
    (hn : PySem.W.findIn X.K (.ref C) "__ne__" = some (some (.builtin "object.__ne__")))
    (hm : PySem.W.mroIn X.K C (.type "object") = some true)
    (hs : PySem.W.findIn X.K (.ref C) "__eq__" = some (some (.ref f)))
    (hf : PySem.W.isFn X.K (.ref f) = true) : OpR X (compareOp .NotEq) (rNeOwn C sp E) := by
  intro pins s σ H x y u v Q I rx ry h
  obtain ⟨a, b, dx, dy, fs, gs, rfl, rfl, ha, hb', hq⟩ := h
  cases (show u = Value.ref a from rx)
  cases (show v = Value.ref b from ry)
  obtain ⟨mA, OA, _⟩ := ins_get I.hok ha
  obtain ⟨oa, JA, _⟩ := OA.look
  obtain ⟨mB, OB, _⟩ := ins_get I.hok hb'
  obtain ⟨ob, JB, _⟩ := OB.look
  show wpAny (model X.prog X.w) X.A (richCompare .NotEq (.ref a) (.ref b)) (EP X pins σ Q) X.xe s
  refine ne_own hr.units0 hr.in1.units0 I.kIn JA JB.type (by simp [PySem.W.notFirst]) hn hm hs hf ?_
  refine wpAny_mono (run_at ⟨hr.in1, rfl⟩ F hb I (va (va .nil)) hq) (fun z s' q => ?_) fun _ _ z => z
  obtain ⟨w', H', I', rw', r, rfl, q'⟩ := q
  cases (show z = Value.bool r from rw')
  exact ⟨r, rfl, .bl _, H', I', rfl, q'⟩

/-- repr of made data -/
theorem cr_reprD (gd : X.A.guards = some []) (hr : Room k X.A) : CallR X (.builtin "repr") (fun xs H Q => ∃ p d, xs = [.ref p] ∧
    Dp X.K H (.ref p) d ∧ d.showable = true ∧ d.hasDict = false ∧ d.depth ≤ 60 ∧ d.shown.length ≤ sizeLine ∧ Q (.str d.shown) H) := by
  intro pins s σ H xs us Q I r h
  obtain ⟨p, d, rfl, hd, hs, hn, hp, hl, q⟩ := h
  obtain ⟨u, rfl, ru⟩ := vals1 r
  cases (show u = Value.ref p from ru)
  obtain ⟨as, rd⟩ := Dp.reads I d _ _ hd rfl
  refine repr_of_reads' rd hs (fun e => by rw [hn] at e; cases e) gd (by have := hr.un; omega) (fun _ _ e => e) (fun h' u tk hk => ?_) hl
  exact ⟨.str d.shown, H, I.kept hk, ⟨_, rfl⟩, q⟩
end

/-! ### o.m(k = v), C.m(k = v), cls(e) -/
/-- o.m(k = e), the further parameter by its name -/
def tMethK (C : Addr) (m : Str) (sp : Sp) (E : XK) (ta : TE) (t : TA) : TE := fun σ H Q => ta σ H fun x H1 =>
  ∃ a dx fs, x = .ref a ∧ H1 a = some (.ins C dx fs) ∧ fs.lookup m = none ∧ t σ H1 fun vs H2 => vs.length = 1 ∧ sp (x :: vs) H2 Q E
section
variable {X : Cx} {k : Nat} {f g C p : Addr} {fd : FuncData} {ps : List Str} {sp : Sp} {E : XK} {o e : Expr} {m nm x : Str} {pos apos kpos : Pos} {ta te : TE} {t : TA} {mc : Value}
theorem pe_methK {pl : Sem Bool} (he : PE X o ta) (c : Cls X.K C) (hm : Meth X.K C m f)
    (F : FnOk X.prog X.w X.K X.mg X.base CX0 k f fd ps sp) (hr : Room k X.A)
    (hb : KBn X.K fd ps 1 [nm] (fun us ws => us ++ ws) (fun vs zs => vs ++ zs)) (hx : Passes CX0 X E) (ha : PE X e te)
    (hall : (backToKw pos (keywordEach [⟨some nm, e, kpos⟩] X.env)).all (·.1.isSome) = true := by rfl)
    (hks : (backToKw pos (keywordEach [⟨some nm, e, kpos⟩] X.env)).filterMap (·.1) = [nm] := by rfl)
    (hpl : ((backTo pos (starEach [] X.env)).any (·.1) || (backToKw pos (keywordEach [⟨some nm, e, kpos⟩] X.env)).any (·.1.isNone)) = false := by rfl)
    (ht : eval (.Call (.Attribute o m apos) [] [⟨some nm, e, kpos⟩] pos) X.env = (do
      let ov ← eval o X.env
      standAt apos.atName
      let (f, first) ← holding [ov] (getMethod ov m pl)
      callWith pos f first (backTo pos (starEach [] X.env)) (backToKw pos (keywordEach [⟨some nm, e, kpos⟩] X.env))) := by rfl) :
    PE X (.Call (.Attribute o m apos) [] [⟨some nm, e, kpos⟩] pos) (tMethK C m sp E ta (tCons te tNil)) := by
  constructor
  intro pins s σ H Q I h
  refine PySem.W.methodCall_KW (pl := pl) (thn (he.run pins s σ H _ I h) fun u s1 z => ?_) ht
  obtain ⟨x, H1, I1, rx, a, dx, fs, ex, ea, l, q⟩ := z
  subst ex
  cases (show u = Value.ref a from rx)
  refine getmeth_ok I1 ea c hm l ?_
  refine PySem.W.callWith_KW0 (h₀ := X.base) I.ok.mod.kin hm.kp hall ?_ hpl
  refine thn ((pk_cons (nm := some nm) (kpos := kpos) ha pk_nil).run pos pins s1 σ H1 _ I1 q) fun ws s2 z => ?_
  obtain ⟨zs, H2, I2, rz, l1, q2⟩ := z
  refine ⟨I2.kIn, ?_⟩
  rw [hks]
  exact run_fnN (ks := [nm]) (us := [.ref a]) (vs := [.ref a]) F hr hb hx I2 (va .nil) rz rfl l1 q2

/-- cls(e), the local name at i holding the class at C -/
def tMakeL (i : Nat) (C : Addr) (sp : Sp) (dvs : List V) (E : XK) (t : TA) : TE := fun σ H Q => σ[i]? = some (some (.ref C)) ∧ tMake C sp dvs E t σ H Q
theorem pe_makeL {i : Nat} {ds : List Value} {dvs : List V} {es : List Expr} {pp : Pos} (M : Mk X.K C f) (F : FnOk X.prog X.w X.K X.mg X.base CX0 k f fd ps sp) (hr : Room (k + 1) X.A)
    (hN : X.N[i]? = some x) (hv : Vis X.env.scope x) (hb : Binds X.K fd ps ds) (hd : Vals dvs ds) (hx : Passes CX0 X E) (ha : PA X (e :: es) t)
    (hdb : (x == ("__debug__" : Str)) = false := by decide) (hcd : (x == ("__classdict__" : Str)) = false := by decide)
    (he : starEach (e :: es) X.env = (false, eval e X.env) :: starEach es X.env := by rfl)
    (hpl : (backTo pos (starEach es X.env)).any (·.1) = false := by rfl) :
    PE X (.Call (.Name x pp) (e :: es) [] pos) (tMakeL i C sp dvs E t) := by
  constructor
  intro pins s σ H Q I h
  obtain ⟨hi, h⟩ := h
  apply wpAny_Call_Name_kw
  refine thn ((pe_var (pos := pp) hN hv hdb hcd).run pins s σ H (fun v H' => v = .ref C ∧ H' = H) I ⟨_, hi, rfl, rfl⟩) fun u s1 z => ?_
  obtain ⟨v, H', I1, rv, rfl, rfl⟩ := z
  cases (show u = Value.ref C from rv)
  apply PySem.W.callWith_K (h₀ := X.base) I.ok.mod.kin M.kp _ he hpl
  apply thn (ha.run pos pins s1 σ H' _ I1 h)
  rintro us s2 ⟨vs, H1, I2, r, q⟩
  refine ⟨I2.kIn, ?_⟩
  exact run_make M F hr hb hd hx I2 r q
end
end GX
namespace GX
open PySem PySem.Spec PyProof.Rows L2
/-- C.m(k = e), a classmethod's one further parameter by its name -/
def tCMethK (C : Addr) (sp : Sp) (E : XK) (ta : TE) (t : TA) : TE := fun σ H Q => ta σ H fun x H1 => x = .ref C ∧
  t σ H1 fun vs H2 => vs.length = 1 ∧ sp (.ref C :: vs) H2 Q E
section
variable {X : Cx} {k : Nat} {f g C p : Addr} {fd : FuncData} {ps : List Str} {sp : Sp} {E : XK} {o e : Expr} {m nm x : Str} {pos apos kpos : Pos} {ta te : TE} {t : TA} {mc : Value}
theorem pe_cmethK {pl : Sem Bool} (he : PE X o ta) (r : ClX.CRead X.K C mc) (c : ClX.CMet X.K C mc m p g)
    (F : FnOk X.prog X.w X.K X.mg X.base CX0 k g fd ps sp) (hr : Room k X.A)
    (hb : KBn X.K fd ps 1 [nm] (fun us ws => us ++ ws) (fun vs zs => vs ++ zs)) (hx : Passes CX0 X E) (ha : PE X e te)
    (hall : (backToKw pos (keywordEach [⟨some nm, e, kpos⟩] X.env)).all (·.1.isSome) = true := by rfl)
    (hks : (backToKw pos (keywordEach [⟨some nm, e, kpos⟩] X.env)).filterMap (·.1) = [nm] := by rfl)
    (hpl : ((backTo pos (starEach [] X.env)).any (·.1) || (backToKw pos (keywordEach [⟨some nm, e, kpos⟩] X.env)).any (·.1.isNone)) = false := by rfl)
    (ht : eval (.Call (.Attribute o m apos) [] [⟨some nm, e, kpos⟩] pos) X.env = (do
      let ov ← eval o X.env
      standAt apos.atName
      let (f, first) ← holding [ov] (getMethod ov m pl)
      callWith pos f first (backTo pos (starEach [] X.env)) (backToKw pos (keywordEach [⟨some nm, e, kpos⟩] X.env))) := by rfl) :
    PE X (.Call (.Attribute o m apos) [] [⟨some nm, e, kpos⟩] pos) (tCMethK C sp E ta (tCons te tNil)) := by
  constructor
  intro pins s σ H Q I h
  refine PySem.W.methodCall_KW (pl := pl) (thn (he.run pins s σ H _ I h) fun u s1 z => ?_) ht
  obtain ⟨x, H1, I1, rx, ex, q⟩ := z
  subst ex
  cases (show u = Value.ref C from rx)
  refine ClX.getmethcm_ok I1 r c fun s2 I2 => ?_
  refine PySem.W.callWith_of hpl (PySem.W.keeps_M (K := X.K) (self := .ref C) c.fi) (evalArgs_kw2_nil hall ?_)
  refine thn ((pk_cons (nm := some nm) (kpos := kpos) ha pk_nil).run pos _ s2 σ H1 _ I2 q) fun ws s3 z => ?_
  obtain ⟨zs, H2, I3, rz, l1, q2⟩ := z
  refine ⟨⟨ClX.pin_at I3, I3.kIn⟩, ?_⟩
  rw [hks]
  have r2 : Vals (V.ref C :: zs) (Value.ref C :: ws) := va rz
  have lw : ws.length = 1 := rz.length.symm.trans l1
  have bt := hb.to s3 [.ref C] ws I3.kIn rfl lw
  have z : wpAny (model X.prog X.w) X.A (call (.ref s1.heap.objs.size) [] ([nm].zip ws))
      (EP X ((s1.heap.objs.size, PySem.W.methodObj (.ref g) (.ref C)) :: pins) σ Q) X.xe s3 := by
    apply wpAny_call
    apply PySem.W.method_call (ClX.pin_at I3)
    apply codeAny_mono (F.run X.A X.stack s3 H2 ⟨[.ref C], [nm].zip ws⟩ (.ref C :: ws) (.ref C :: zs) Q E hr I3.env0 bt r2 q2)
    intro c s' hq
    match c, hq with
    | .error e, hq => exact hx _ σ H2 s3 e s' I3 hq
    | .ok (.ret u), hq => exact I3.after hq
    | .ok .next, hq => exact hq.elim
    | .ok .brk, hq => exact hq.elim
    | .ok .cont, hq => exact hq.elim
  exact thn z fun _ _ y => ClX.unpinE y
end
end GX
namespace KM
/-! ### fractions -/
def gz (p q : Int) : Int := ((Nat.gcd p.natAbs q.natAbs : Nat) : Int)
theorem gz_pos {p q : Int} (h : q ≠ 0) : 0 < gz p q := by
  unfold gz
  have : 0 < Nat.gcd p.natAbs q.natAbs := Nat.gcd_pos_of_pos_right _ (by omega)
  omega
theorem gz_dvd_l (p q : Int) : gz p q ∣ p := by
  unfold gz
  exact Int.ofNat_dvd_left.mpr (Nat.gcd_dvd_left _ _)
theorem gz_dvd_r (p q : Int) : gz p q ∣ q := by
  unfold gz
  exact Int.ofNat_dvd_left.mpr (Nat.gcd_dvd_right _ _)
theorem gz_neg (p q : Int) : gz (-p) (-q) = gz p q := by unfold gz; simp
theorem gz_le {p q : Int} (h : q ≠ 0) : (gz p q).natAbs ≤ q.natAbs := by
  unfold gz
  simp only [Int.natAbs_natCast]
  exact Nat.le_of_dvd (by omega) (Nat.gcd_dvd_right _ _)
theorem fdiv_of_dvd {a b : Int} (h : b ∣ a) : a.fdiv b = a / b := by
  obtain ⟨c, rfl⟩ := h
  by_cases hb : b = 0
  · subst hb; simp
  · rw [Int.mul_fdiv_cancel_left _ hb, Int.mul_ediv_cancel_left _ hb]

theorem num_pos {p q : Int} (h : 0 < q) : (Rat.divInt p q).num = p / gz p q := by
  rw [Rat.num_divInt, Int.sign_eq_one_of_pos h, Int.one_mul]
  unfold gz Int.gcd
  rw [Nat.gcd_comm]
theorem den_pos {p q : Int} (h : 0 < q) : ((Rat.divInt p q).den : Int) = q / gz p q := by
  rw [Rat.den_divInt, if_neg (by omega)]
  unfold gz Int.gcd
  rw [Nat.gcd_comm, Int.natCast_ediv, Int.natAbs_of_nonneg (by omega)]
theorem num_neg {p q : Int} (h : q < 0) : (Rat.divInt p q).num = (-p) / gz p q := by
  have := num_pos (p := -p) (q := -q) (by omega)
  rw [Rat.neg_divInt_neg, gz_neg] at this
  exact this
theorem den_neg {p q : Int} (h : q < 0) : ((Rat.divInt p q).den : Int) = (-q) / gz p q := by
  have := den_pos (p := -p) (q := -q) (by omega)
  rw [Rat.neg_divInt_neg, gz_neg] at this
  exact this
/-- what __init__ reckons -/
def sg (p q : Int) : Int := if q < 0 then - gz p q else gz p q
theorem init_top {p q : Int} (h : q ≠ 0) : p.fdiv (sg p q) = (Rat.divInt p q).num := by
  unfold sg
  split
  · rename_i hq
    rw [num_neg hq]
    obtain ⟨c, hc⟩ := gz_dvd_l p q
    have g0 := gz_pos (p := p) h
    generalize gz p q = g at *
    subst hc
    rw [show g * c = (-g) * (-c) by simp [Int.neg_mul_neg], Int.mul_fdiv_cancel_left _ (by omega), show -(-g * -c) = g * (-c) by rw [Int.neg_mul_neg, Int.mul_neg], Int.mul_ediv_cancel_left _ (by omega)]
  · rename_i hq
    rw [num_pos (by omega), fdiv_of_dvd (gz_dvd_l p q)]
theorem init_bot {p q : Int} (h : q ≠ 0) : q.fdiv (sg p q) = ((Rat.divInt p q).den : Int) := by
  unfold sg
  split
  · rename_i hq
    rw [den_neg hq]
    obtain ⟨c, hc⟩ := gz_dvd_r p q
    have g0 := gz_pos (p := p) h
    generalize gz p q = g at *
    subst hc
    rw [show g * c = (-g) * (-c) by simp [Int.neg_mul_neg], Int.mul_fdiv_cancel_left _ (by omega), show -(-g * -c) = g * (-c) by rw [Int.neg_mul_neg, Int.mul_neg], Int.mul_ediv_cancel_left _ (by omega)]
  · rename_i hq
    rw [den_pos (by omega), fdiv_of_dvd (gz_dvd_r p q)]
theorem sg_ne {p q : Int} (h : q ≠ 0) : sg p q ≠ 0 := by
  have := gz_pos (p := p) h
  unfold sg
  split <;> omega
theorem sg_abs {p q : Int} (h : q ≠ 0) : (sg p q).natAbs ≤ q.natAbs := by
  have := gz_le (p := p) h
  unfold sg
  split
  · rw [Int.natAbs_neg]; exact this
  · exact this

/-! ### sizes -/
theorem num_le (p q : Int) : (Rat.divInt p q).num.natAbs ≤ p.natAbs := by
  by_cases hq : q = 0
  · subst hq; simp
  · rw [← init_top hq]
    have hd : sg p q ∣ p := by
      unfold sg; split
      · exact Int.neg_dvd.mpr (gz_dvd_l p q)
      · exact gz_dvd_l p q
    rw [fdiv_of_dvd hd]
    exact Int.natAbs_ediv_le_natAbs _ _
theorem den_le {p q : Int} (hq : q ≠ 0) : (Rat.divInt p q).den ≤ q.natAbs := by
  have e := init_bot (p := p) hq
  have hd : sg p q ∣ q := by
    unfold sg; split
    · exact Int.neg_dvd.mpr (gz_dvd_r p q)
    · exact gz_dvd_r p q
  rw [fdiv_of_dvd hd] at e
  have := Int.natAbs_ediv_le_natAbs q (sg p q)
  rw [e] at this
  simpa using this
structure Sz (n : Nat) (r : Rat) : Prop where
  num : r.num.natAbs < 2 ^ n
  den : ((r.den : Int)).natAbs < 2 ^ n
theorem Sz.mono {n m : Nat} {r : Rat} (h : Sz n r) (e : n ≤ m) : Sz m r :=
  have := Nat.pow_le_pow_right (show 0 < 2 by decide) e
  ⟨Nat.lt_of_lt_of_le h.num this, Nat.lt_of_lt_of_le h.den this⟩
theorem Sz.low {n : Nat} {p q : Int} (hp : p.natAbs < 2 ^ n) (hq : q.natAbs < 2 ^ n) (h0 : q ≠ 0) : Sz n (Rat.divInt p q) :=
  ⟨Nat.lt_of_le_of_lt (num_le p q) hp, Nat.lt_of_le_of_lt (by simpa using den_le h0) hq⟩
theorem mul_lt {i j : Int} {a b : Nat} (ha : i.natAbs < 2 ^ a) (hb : j.natAbs < 2 ^ b) : (i * j).natAbs < 2 ^ (a + b) := by
  rw [Int.natAbs_mul, Nat.pow_add]
  exact Nat.mul_lt_mul'' ha hb
theorem add_lt {i j : Int} {a : Nat} (ha : i.natAbs < 2 ^ a) (hb : j.natAbs < 2 ^ a) : (i + j).natAbs < 2 ^ (a + 1) := by
  have := Int.natAbs_add_le i j
  rw [Nat.pow_succ]
  omega
theorem sub_lt {i j : Int} {a : Nat} (ha : i.natAbs < 2 ^ a) (hb : j.natAbs < 2 ^ a) : (i - j).natAbs < 2 ^ (a + 1) := by
  have := Int.natAbs_sub_le i j
  rw [Nat.pow_succ]
  omega
theorem lt_more {i : Int} {a b : Nat} (h : i.natAbs < 2 ^ a) (e : a ≤ b) : i.natAbs < 2 ^ b :=
  Nat.lt_of_lt_of_le h (Nat.pow_le_pow_right (by decide) e)

/-! ### the operations -/
theorem dz (r : Rat) : (r.den : Int) ≠ 0 := by have := r.den_pos; omega
theorem dpos (r : Rat) : 0 < (r.den : Int) := by have := r.den_pos; omega
theorem self_div (r : Rat) : Rat.divInt r.num r.den = r := Rat.num_divInt_den r
theorem add_eq (r s : Rat) : Rat.divInt (r.num * s.den + s.num * r.den) (r.den * s.den) = r + s := by
  have h := Rat.divInt_add_divInt r.num s.num (dz r) (dz s)
  rw [self_div, self_div] at h
  exact h.symm
theorem sub_eq (r s : Rat) : Rat.divInt (r.num * s.den - s.num * r.den) (r.den * s.den) = r - s := by
  have h := Rat.divInt_sub_divInt r.num s.num (dz r) (dz s)
  rw [self_div, self_div] at h
  exact h.symm
theorem mul_eq (r s : Rat) : Rat.divInt (r.num * s.num) (r.den * s.den) = r * s := by
  have h := Rat.divInt_mul_divInt r.num s.num (d₁ := r.den) (d₂ := s.den)
  rw [self_div, self_div] at h
  exact h.symm
theorem neg_eq (r : Rat) : Rat.divInt (-r.num) r.den = -r := by
  have h := Rat.neg_divInt r.num r.den
  rw [self_div] at h
  exact h.symm
theorem over_eq (r s : Rat) : Rat.divInt (r.num * s.den) (r.den * s.num) = r / s := by
  have h := Rat.divInt_mul_divInt r.num s.den (d₁ := r.den) (d₂ := s.num)
  have e : Rat.divInt s.den s.num = s⁻¹ := by
    have := Rat.inv_divInt s.num s.den
    rw [self_div] at this
    exact this.symm
  rw [self_div, e] at h
  rw [Rat.div_def]
  exact h.symm
theorem cop_num {n : Int} {d : Nat} (h : d ≠ 0) (c : Nat.gcd n.natAbs d = 1) : (Rat.divInt n d).num = n ∧ (Rat.divInt n d).den = d := by
  have := Rat.mk_eq_divInt (num := n) (den := d) (nz := h) (c := c)
  rw [← this]
  exact ⟨rfl, rfl⟩
theorem abs_part (r : Rat) : (Rat.divInt (r.num.natAbs : Int) r.den).num = (r.num.natAbs : Int) ∧ (Rat.divInt (r.num.natAbs : Int) r.den).den = r.den :=
  cop_num r.den_nz (by simpa using r.reduced)
theorem eq_iff (r s : Rat) : r = s ↔ r.num = s.num ∧ (r.den : Int) = s.den := by
  constructor
  · rintro rfl; exact ⟨rfl, rfl⟩
  · rintro ⟨h1, h2⟩
    exact Rat.ext h1 (by omega)
theorem lt_iff (r s : Rat) : r < s ↔ r.num * s.den < s.num * r.den := Rat.lt_iff r s
theorem le_iff (r s : Rat) : r ≤ s ↔ r.num * s.den ≤ s.num * r.den := Rat.le_iff r s
theorem of_int (n : Int) : Rat.divInt n 1 = (n : Rat) := by
  have : (n : Rat) = Rat.divInt (n : Rat).num (n : Rat).den := (self_div _).symm
  rw [this]; rfl
end KM
namespace K11
open PySem L2 GX KM
def top (i : Nat) : Stmt := PySem.Challenge.pw_heardquotes_k11_whole_ratios_reckoned.main.body.getD i (.Pass ⟨0, 0, 0, 0⟩)
def nameOf : Stmt → Str
  | .FunctionDef n _ _ _ _ _ _ _ _ _ => n
  | .ClassDef n _ _ _ _ _ _ _ _ _ _ => n
  | _ => "?"
abbrev sIsI : Stmt := top 2
abbrev sInit : Stmt := inClass (top 9) 0
abbrev sTop : Stmt := inClass (top 9) 2
abbrev sBot : Stmt := inClass (top 9) 3
abbrev sAsR : Stmt := top 10

/-! ### the data -/
theorem tb : ¬ (("_top" : Str) = "_bottom") := by decide +kernel
def pf (p q : Int) : List (Str × V) := putF "_bottom" (.int q) (putF "_top" (.int p) [])
theorem pf_top (p q : Int) : (pf p q).lookup ("_top" : Str) = some (.int p) := by
  unfold pf
  rw [lookup_putF, if_neg tb, lookup_putF, if_pos rfl]
theorem pf_bot (p q : Int) : (pf p q).lookup ("_bottom" : Str) = some (.int q) := by
  unfold pf
  rw [lookup_putF, if_pos rfl]
theorem pf_no (p q : Int) {m : Str} (h1 : ¬ m = "_bottom") (h2 : ¬ m = "_top") : (pf p q).lookup m = none := by
  unfold pf
  rw [lookup_putF, if_neg h1, lookup_putF, if_neg h2]
  all_goals rfl
/-- a Ratio of worth r stands at a -/
def RtAt (C : Addr) (H : Hp) (a : Addr) (r : Rat) : Prop := ∃ dx, H a = some (.ins C dx (pf r.num r.den))
theorem RtAt.mono {C : Addr} {H H' : Hp} {a : Addr} {r : Rat} (h : RtAt C H a r) (e : Evl.Ex H H') : RtAt C H' a r := by
  obtain ⟨dx, h⟩ := h
  exact ⟨dx, e _ _ h⟩

/-! ### the promises -/
def spIsI : Sp := fun vs H Q _ => ∃ i : Int, vs = [.int i] ∧ Q (.bl true) H
def spInit (C : Addr) : Sp := fun vs H Q _ => ∃ (a dx : Addr) (p q : Int), vs = [.ref a, .int p, .int q] ∧ q ≠ 0 ∧ q.natAbs < 2 ^ 9000 ∧
  H a = some (.ins C dx []) ∧ ∀ H', H' = upd H a (.ins C dx (pf (Rat.divInt p q).num (Rat.divInt p q).den)) → Q .non H'

/-- what the top has written of the class and of built-in names -/
structure Txt (K : PySem.W.Frag) (mg : Str → Option Value) (C : Addr) : Prop where
  cl : Cls K C
  nT : NoAttr K C "_top"
  nB : NoAttr K C "_bottom"
  mgC : mg "Ratio" = some (.ref C)
  isi : mg "isinstance" = none
  int : mg "int" = none
  bool : mg "bool" = none
  gcd : mg "gcd" = some (.builtin "math.gcd")
  hcl : PySem.W.findIn K (.ref C) "__class__" = some (some (.builtin "object.__class__"))
  hcg : PySem.W.specialIn K (.builtin "object.__class__") "__get__" = some (some (.builtin "getset_descriptor.__get__"))
  htk : PySem.W.takesIn K (.builtin "object.__class__") = some true
  hmo : PySem.W.mroIn K C (.type "object") = some true
  kI : PySem.W.kitOne K (.type "int") (.ref C) = some false
  kC : PySem.W.kitOne K (.ref C) (.ref C) = some true
  kCi : PySem.W.kitOne K (.ref C) (.type "int") = some false

theorem op_fdivNW {X : Cx} : OpR X (binaryOp .FloorDiv) (rI (fun _ j => j ≠ 0 ∧ j.natAbs.log2 < 9000) fun i j => .int (i.fdiv j)) :=
  opI fun _ _ _ _ _ _ _ hc q => PyProof.Rows.floordiv_int hc.1 q (.inl (PyProof.noPylong_of_log2 hc.2))
section
variable {P : Program} {w : World} {K : PySem.W.Frag} {mg : Str → Option Value} {base : Heap}
theorem scIsI : FnScope ["value"] ["value"] (defScope sIsI) := ⟨rfl, rfl, rfl, by decide +kernel, rfl, by decide +kernel, by decide +kernel⟩
theorem ok_isI {f C : Addr} {fd : FuncData} (F : Fun K "is_integer" "is_integer" sIsI f fd) (T : Txt K mg C) : FnOk P w K mg base CX0 1 f fd ["value"] spIsI := by
  refine F.ok scIsI (fun vs H Q E h => ?_) (fun cdv A outer s H vs Q E hr h => ?_)
  · obtain ⟨i, rfl, _⟩ := h
    rfl
  · obtain ⟨i, rfl, q⟩ := h
    refine ⟨_, pss_one (ps_ret (pe_and (pe_callB call_isi (by rfl) T.isi (by decide +kernel) (pa_cons (pv 0) (pa_cons (pe_bltn (v := .ty "int") (by rfl) T.int (by decide +kernel) rfl) pa_nil)))
      (pe_one (pe_not (pe_callB call_isi (by rfl) T.isi (by decide +kernel) (pa_cons (pv 0) (pa_cons (pe_bltn (v := .ty "bool") (by rfl) T.bool (by decide +kernel) rfl) pa_nil))))))), ?_⟩
    refine ⟨_, rfl, _, _, _, _, true, rfl, .ty _, .base (.int i), kit_ty (by decide +kernel), true, rfl, iteT ?_⟩
    exact ⟨_, rfl, _, _, _, _, false, rfl, .ty _, .base (.int i), kit_ty (by decide +kernel), false, rfl, q⟩
end
end K11
namespace K11
open PySem L2 GX KM
theorem log_of {j : Int} {n : Nat} (h : j.natAbs < 2 ^ n) (h0 : 0 < n) (hn : n ≤ 9000) : j.natAbs.log2 < 9000 :=
  Nat.lt_of_lt_of_le (PySem.Flt.log2_lt_of h0 h) hn
section
variable {P : Program} {w : World} {K : PySem.W.Frag} {mg : Str → Option Value} {base : Heap}
theorem scInit : FnScope ["self", "top", "bottom", "shared"] ["self", "top", "bottom"] (defScope sInit) := ⟨rfl, rfl, rfl, by decide +kernel, rfl, by decide +kernel, by decide +kernel⟩
/-- the def is_integer as it stands -/
structure IsI (K : PySem.W.Frag) (mg : Str → Option Value) (f : Addr) (fd : FuncData) : Prop where
  F : Fun K "is_integer" "is_integer" sIsI f fd
  m : mg "is_integer" = some (.ref f)
  b : Binds K fd ["value"] []
theorem ok_init {f C fi : Addr} {fd fdi : FuncData} (F : FunD K "__init__" "Ratio.__init__" (defArgs sInit) (defBody sInit) (defScope sInit) [.int 1] [] f fd) (T : Txt K mg C) (Z : IsI K mg fi fdi) :
    FnOk P w K mg base CX0 2 f fd ["self", "top", "bottom"] (spInit C) := by
  have G : FnOk P w K mg base CX0 1 fi fdi ["value"] spIsI := ok_isI Z.F T
  refine F.ok scInit (fun vs H Q E h => ?_) (fun cdv A outer s H vs Q E hr h => ?_)
  · obtain ⟨a, dx, p, q, rfl, _⟩ := h
    rfl
  · obtain ⟨a, dx, p, q, rfl, q0, hq, ha, k⟩ := h
    refine ⟨_, PSs.nox (pss_cons (ps_if (pt_not (pt_val (pe_call G hr (by rfl) Z.m Z.F.kp Z.b .nil pass0 (pa_cons (pv 1) pa_nil)))) (pss_one (ps_never)) pss_nil)
      (pss_cons (ps_if (PW.pt (pw_or (pt_not (pt_val (pe_call G hr (by rfl) Z.m Z.F.kp Z.b .nil pass0 (pa_cons (pv 2) pa_nil)))) (pw_or1 (pt_cmpR op_eq (pv 2) pe_int (nomark _))))) (pss_one (ps_never)) pss_nil)
      (pss_cons (ps_set (i := 3) scInit.nd rfl (Or.inl rfl) (pe_callBfun cr_gcd (by rfl) T.gcd (pa_cons (pv 1) (pa_cons (pv 2) pa_nil))))
      (pss_cons (ps_if (pt_cmpR op_lt (pv 2) pe_int (nomark _)) (pss_one (ps_set (i := 3) scInit.nd rfl (Or.inl rfl) (pe_un un_neg (pv 3)))) pss_nil)
      (pss_cons (ps_fld (pv 0) (pe_op op_fdivNW (pv 1) (pv 3)) rfl)
      (pss_one (ps_fld (pv 0) (pe_op op_fdivNW (pv 2) (pv 3)) rfl))))))), ?_⟩
    refine ⟨_, rfl, _, rfl, true, rfl, iteF ?_⟩
    refine ⟨_, rfl, _, rfl, true, rfl, iteF ?_⟩
    refine ⟨_, rfl, rfl, _, rfl, ?_⟩
    rw [show decide (V.int q = V.int 0) = false from decide_eq_false (fun e => q0 (by cases e; rfl))]
    refine iteF ?_
    refine ⟨_, rfl, _, rfl, p, q, rfl, ?_⟩
    have s0 := sg_ne (p := p) q0
    have s1 : (sg p q).natAbs.log2 < 9000 := log_of (Nat.lt_of_le_of_lt (sg_abs q0) hq) (by decide) (Nat.le_refl _)
    have fin : ∀ g, g = sg p q → (sFld K (tVar 0) (tOp (rI (fun _ j => j ≠ 0 ∧ j.natAbs.log2 < 9000) fun i j => .int (i.fdiv j)) (tVar 1) (tVar 3)) "_top")
        { nx := fun σ H => (sFld K (tVar 0) (tOp (rI (fun _ j => j ≠ 0 ∧ j.natAbs.log2 < 9000) fun i j => .int (i.fdiv j)) (tVar 2) (tVar 3)) "_bottom") { nx := fun _ H' => Q .non H', rt := Q } σ H, rt := Q }
        [some (.ref a), some (.int p), some (.int q), some (.int g)] H := by
      intro g hg
      subst hg
      refine ⟨_, rfl, _, rfl, _, _, rfl, rfl, ⟨s0, s1⟩, _, rfl, a, C, dx, [], rfl, ha, T.cl, T.nT, (by show 0 < 1000; decide), ?_⟩
      refine ⟨_, rfl, _, rfl, _, _, rfl, rfl, ⟨s0, s1⟩, _, rfl, a, C, dx, _, rfl, upd_same, T.cl, T.nB, (by show 1 < 1000; decide), ?_⟩
      refine k _ ?_
      dsimp only
      rw [init_top q0, init_bot q0, upd_upd]
      rfl
    refine ⟨_, rfl, _, _, rfl, rfl, _, rfl, ite2 (fun hn => ?_) (fun hn => ?_)⟩
    · exact ⟨_, rfl, _, rfl, fin _ (by unfold sg; rw [if_pos (of_decide_eq_true hn)]; rfl)⟩
    · exact fin _ (by unfold sg; rw [if_neg (fun z => hn (decide_eq_true z))]; rfl)
end
end K11
namespace K11
open PySem L2 GX KM
open Evl (Ex)
/-- a NUMBER of worth r -/
def NumV (C : Addr) (H : Hp) (v : V) (r : Rat) : Prop := (∃ i : Int, v = .int i ∧ r = (i : Rat)) ∨ ∃ a, v = .ref a ∧ RtAt C H a r
theorem NumV.mono {C : Addr} {H H' : Hp} {v : V} {r : Rat} (h : NumV C H v r) (e : Ex H H') : NumV C H' v r :=
  h.elim .inl fun ⟨a, h1, h2⟩ => .inr ⟨a, h1, h2.mono e⟩
/-- a new Ratio of worth r comes back -/
def RetR (C : Addr) (r : Rat) (H : Hp) (Q : VK) : Prop := ∀ a H', Ex H H' → RtAt C H' a r → Q (.ref a) H'
def spAsR (C : Addr) : Sp := fun vs H Q _ => ∃ v r, vs = [v] ∧ NumV C H v r ∧ RetR C r H Q
theorem make_pure {C : Addr} {p q : Int} {H : Hp} {Q : VK} {E : XK} (q0 : q ≠ 0) (hq : q.natAbs < 2 ^ 9000) (k : RetR C (Rat.divInt p q) H Q) :
    ∀ x dx, H x = none → H dx = none → dx ≠ x → spInit C [.ref x, .int p, .int q] (upd (upd H dx (.own x)) x (.ins C dx [])) (fun v H2 => v = .non ∧ Q (.ref x) H2) E := by
  intro x dx hx hdx ne
  refine ⟨x, dx, p, q, rfl, q0, hq, upd_same, fun H' e => ⟨rfl, ?_⟩⟩
  subst e
  refine k x _ (fun b o e => ?_) ⟨dx, upd_same⟩
  rw [upd_ne (ne_of_none e hx), upd_ne (ne_of_none e hx), upd_ne (ne_of_none e hdx)]
  exact e
/-- how Ratio is made -/
structure MkR (P : Program) (w : World) (K : PySem.W.Frag) (mg : Str → Option Value) (base : Heap) (C f : Addr) (fd : FuncData) (ds : List Value) : Prop where
  M : Mk K C f
  G : FnOk P w K mg base CX0 2 f fd ["self", "top", "bottom"] (spInit C)
  b2 : Binds K fd ["self", "top", "bottom"] []
  b1 : Binds K fd ["self", "top", "bottom"] ds
  d1 : Vals [.int 1] ds
section
variable {P : Program} {w : World} {K : PySem.W.Frag} {mg : Str → Option Value} {base : Heap}
theorem tyR {C a : Addr} {H : Hp} {r : Rat} (T : Txt K mg C) (h : RtAt C H a r) : TyX K H (.ref a) (.ref C) := by
  obtain ⟨dx, h⟩ := h
  exact .base (.ins h T.cl T.hcl T.hcg T.htk T.hmo)
theorem scAsR : FnScope ["number"] ["number"] (defScope sAsR) := ⟨rfl, rfl, rfl, by decide +kernel, rfl, by decide +kernel, by decide +kernel⟩
theorem ok_asR {f C fI : Addr} {fd fdI : FuncData} {ds : List Value} (F : Fun K "as_ratio" "as_ratio" sAsR f fd) (T : Txt K mg C) (R : MkR P w K mg base C fI fdI ds) :
    FnOk P w K mg base CX0 4 f fd ["number"] (spAsR C) := by
  refine F.ok scAsR (fun vs H Q E h => ?_) (fun cdv A outer s H vs Q E hr h => ?_)
  · obtain ⟨v, r, rfl, _⟩ := h
    rfl
  · obtain ⟨v, r, rfl, hv, k⟩ := h
    refine ⟨_, pss_cons (ps_if (pt_val (pe_callB call_isi (by rfl) T.isi (by decide +kernel) (pa_cons (pv 0) (pa_cons (pe_glob (v := .ref C) (by rfl) T.mgC rfl) pa_nil)))) (pss_one (ps_ret (pv 0))) pss_nil)
      (pss_one (ps_ret (pe_make R.M R.G hr (by rfl) T.mgC R.b1 R.d1 pass0 (pa_cons (pv 0) pa_nil)))), ?_⟩
    rcases hv with ⟨i, rfl, rfl⟩ | ⟨a, rfl, ha⟩
    · refine ⟨_, rfl, _, _, _, _, false, rfl, .own C, .base (.int i), T.kI, false, rfl, iteF ?_⟩
      refine ⟨_, rfl, make_pure (by decide) (Nat.lt_of_lt_of_le (by decide : (1 : Int).natAbs < 2 ^ 1) (Nat.pow_le_pow_right (by decide) (by decide))) ?_⟩
      rw [of_int]
      exact k
    · refine ⟨_, rfl, _, _, _, _, true, rfl, .own C, tyR T ha, T.kC, true, rfl, iteT ?_⟩
      exact ⟨_, rfl, k a H (Evl.Ex.refl H) ha⟩
theorem scTop : FnScope ["self"] ["self"] (defScope sTop) := ⟨rfl, rfl, rfl, by decide +kernel, rfl, by decide +kernel, by decide +kernel⟩
theorem scBot : FnScope ["self"] ["self"] (defScope sBot) := ⟨rfl, rfl, rfl, by decide +kernel, rfl, by decide +kernel, by decide +kernel⟩
def spTop (C : Addr) : Sp := fun vs H Q _ => ∃ a r, vs = [.ref a] ∧ RtAt C H a r ∧ Q (.int r.num) H
def spBot (C : Addr) : Sp := fun vs H Q _ => ∃ a r, vs = [.ref a] ∧ RtAt C H a r ∧ Q (.int (r.den : Int)) H
theorem ok_top {f C : Addr} {fd : FuncData} (F : Fun K "top" "Ratio.top" sTop f fd) (T : Txt K mg C) : FnOk P w K mg base CX0 1 f fd ["self"] (spTop C) := by
  refine F.ok scTop (fun vs H Q E h => ?_) (fun cdv A outer s H vs Q E hr h => ?_)
  · obtain ⟨a, r, rfl, _⟩ := h
    rfl
  · obtain ⟨a, r, rfl, ⟨dx, ha⟩, k⟩ := h
    refine ⟨_, pss_one (ps_ret (pe_fld (pv 0) rfl)), ?_⟩
    exact ⟨_, rfl, a, C, dx, _, _, rfl, ha, T.cl, T.nT, pf_top _ _, k⟩
theorem ok_bot {f C : Addr} {fd : FuncData} (F : Fun K "bottom" "Ratio.bottom" sBot f fd) (T : Txt K mg C) : FnOk P w K mg base CX0 1 f fd ["self"] (spBot C) := by
  refine F.ok scBot (fun vs H Q E h => ?_) (fun cdv A outer s H vs Q E hr h => ?_)
  · obtain ⟨a, r, rfl, _⟩ := h
    rfl
  · obtain ⟨a, r, rfl, ⟨dx, ha⟩, k⟩ := h
    refine ⟨_, pss_one (ps_ret (pe_fld (pv 0) rfl)), ?_⟩
    exact ⟨_, rfl, a, C, dx, _, _, rfl, ha, T.cl, T.nB, pf_bot _ _, k⟩
end
end K11
namespace K11
open PySem L2 GX KM
open Evl (Ex)
theorem _root_.KM.Sz.pos {n : Nat} {r : Rat} (h : Sz n r) : 0 < n := by
  have := h.den
  have d := dpos r
  cases n with
  | zero => simp at this; omega
  | succ n => exact Nat.succ_pos n
/-- all that the class's methods lean on -/
structure RK (P : Program) (w : World) (K : PySem.W.Frag) (mg : Str → Option Value) (base : Heap) where
  C : Addr
  T : Txt K mg C
  fI : Addr
  fdI : FuncData
  ds : List Value
  mkr : MkR P w K mg base C fI fdI ds
  fi : Addr
  fdi : FuncData
  isI : FnOk P w K mg base CX0 1 fi fdi ["value"] spIsI
  Zi : IsI K mg fi fdi
  fA : Addr
  fdA : FuncData
  asR : FnOk P w K mg base CX0 4 fA fdA ["number"] (spAsR C)
  mA : mg "as_ratio" = some (.ref fA)
  kA : PySem.W.keepIn K (.ref fA) = true
  bA : Binds K fdA ["number"] []
  pT : Addr
  gT : Addr
  fdT : FuncData
  tP : PropOf K C "top" pT gT
  tF : FnOk P w K mg base CX0 1 gT fdT ["self"] (spTop C)
  tB : Binds K fdT ["self"] []
  pB : Addr
  gB : Addr
  fdB : FuncData
  bP : PropOf K C "bottom" pB gB
  bF : FnOk P w K mg base CX0 1 gB fdB ["self"] (spBot C)
  bB : Binds K fdB ["self"] []

def spBin (C : Addr) (op : Rat → Rat → Rat) : Sp := fun vs H Q _ => ∃ a v r s n m, vs = [.ref a, v] ∧ RtAt C H a r ∧ NumV C H v s ∧ Sz n r ∧ Sz m s ∧ n + m + 1 ≤ 9000 ∧ RetR C (op r s) H Q
abbrev sAdd : Stmt := inClass (top 9) 6
abbrev sSub : Stmt := inClass (top 9) 8
abbrev sMul : Stmt := inClass (top 9) 10
section
variable {P : Program} {w : World} {K : PySem.W.Frag} {mg : Str → Option Value} {base : Heap}
section
variable {X : Cx} {e e1 e2 : Expr} {te t1 t2 : TE} {pos p : Pos}
/-- e.top, e.bottom, as_ratio(e), Ratio(e1, e2) over the kit -/
theorem pe_top (R : RK X.prog X.w X.K X.mg X.base) (hr : Room 2 X.A) (he : PE X e te) (hab : attributeBase e "top" X.env (eval e X.env) = eval e X.env := by rfl) : PE X (.Attribute e "top" pos) (tProp R.C (spTop R.C) [] E0 te) :=
  pe_prop he R.T.cl R.tP R.tF hr R.tB .nil pass0 hab
theorem pe_bot (R : RK X.prog X.w X.K X.mg X.base) (hr : Room 2 X.A) (he : PE X e te) (hab : attributeBase e "bottom" X.env (eval e X.env) = eval e X.env := by rfl) : PE X (.Attribute e "bottom" pos) (tProp R.C (spBot R.C) [] E0 te) :=
  pe_prop he R.T.cl R.bP R.bF hr R.bB .nil pass0 hab
theorem pe_asR (R : RK X.prog X.w X.K X.mg X.base) (hr : Room 4 X.A) (hg : Gl X "as_ratio") (he : PA X [e] (tCons te tNil)) (hst : starEach [e] X.env = (false, eval e X.env) :: starEach [] X.env := by rfl) (hpl : (backTo pos (starEach [] X.env)).any (·.1) = false := by rfl) : PE X (.Call (.Name "as_ratio" p) [e] [] pos) (tCall (spAsR R.C) [] E0 (tCons te tNil)) :=
  pe_call R.asR hr hg R.mA R.kA R.bA .nil pass0 he (by decide) hst hpl
theorem pe_mk2 (R : RK X.prog X.w X.K X.mg X.base) (hr : Room 3 X.A) (hg : Gl X "Ratio") (he : PA X [e1, e2] (tCons t1 (tCons t2 tNil))) (hst : starEach [e1, e2] X.env = (false, eval e1 X.env) :: starEach [e2] X.env := by rfl) (hpl : (backTo pos (starEach [e2] X.env)).any (·.1) = false := by rfl) : PE X (.Call (.Name "Ratio" p) [e1, e2] [] pos) (tMake R.C (spInit R.C) [] E0 (tCons t1 (tCons t2 tNil))) :=
  pe_make R.mkr.M R.mkr.G hr hg R.T.mgC R.mkr.b2 .nil pass0 he (by decide) hst hpl
end
theorem scAdd : FnScope ["self", "other", "number", "top"] ["self", "other"] (defScope sAdd) := ⟨rfl, rfl, rfl, by decide +kernel, rfl, by decide +kernel, by decide +kernel⟩
theorem ok_add (R : RK P w K mg base) {f : Addr} {fd : FuncData} (F : Fun K "__add__" "Ratio.__add__" sAdd f fd) : FnOk P w K mg base CX0 5 f fd ["self", "other"] (spBin R.C (· + ·)) := by
  refine F.ok scAdd (fun vs H Q E h => ?_) (fun cdv A outer s H vs Q E hr h => ?_)
  · obtain ⟨a, v, r, s', n, m, rfl, _⟩ := h
    rfl
  · obtain ⟨a, v, r, s', n, m, rfl, hA, hv, zn, zm, hz, k⟩ := h
    have hr3 : Room 3 _ := hr.mono (by decide)
    have hr2 : Room 2 _ := hr.mono (by decide)
    refine ⟨_, pss_cons (ps_set (i := 2) scAdd.nd rfl (Or.inl rfl) (pe_asR R hr (by rfl) (pa_cons (pv 1) pa_nil)))
      (pss_cons (ps_set (i := 3) scAdd.nd rfl (Or.inl rfl) (pe_op op_add (pe_op op_mulW (pe_fld (pv 0) rfl) (pe_bot R hr2 (pv 2))) (pe_op op_mulW (pe_top R hr2 (pv 2)) (pe_fld (pv 0) rfl))))
      (pss_one (ps_ret (pe_mk2 R hr3 (by rfl) (pa_cons (pv 3) (pa_cons (pe_op op_mulW (pe_fld (pv 0) rfl) (pe_bot R hr2 (pv 2))) pa_nil)))))), ?_⟩
    refine ⟨_, rfl, v, s', rfl, hv, fun b H1 e1 hb => ?_⟩
    obtain ⟨da, ha⟩ := hA.mono e1
    obtain ⟨db, hb'⟩ := id hb
    have p1 := zn.pos
    have p2 := zm.pos
    refine ⟨_, rfl, a, R.C, da, _, _, rfl, ha, R.T.cl, R.T.nT, pf_top _ _, _, rfl, b, db, _, rfl, hb', b, s', rfl, hb, _, _, rfl, rfl, wide_mul zn.num zm.den p1 p2 (by omega), ?_⟩
    refine ⟨_, rfl, b, db, _, rfl, hb', b, s', rfl, hb, _, rfl, a, R.C, da, _, _, rfl, ha, R.T.cl, R.T.nB, pf_bot _ _, _, _, rfl, rfl, wide_mul zm.num zn.den p2 p1 (by omega), _, _, rfl, rfl, ?_⟩
    refine ⟨_, rfl, _, rfl, a, R.C, da, _, _, rfl, ha, R.T.cl, R.T.nB, pf_bot _ _, _, rfl, b, db, _, rfl, hb', b, s', rfl, hb, _, _, rfl, rfl, wide_mul zn.den zm.den p1 p2 (by omega), ?_⟩
    have q0 : (r.den : Int) * (s'.den : Int) ≠ 0 := Int.mul_ne_zero (dz r) (dz s')
    refine make_pure q0 (lt_more (mul_lt zn.den zm.den) (by omega)) ?_
    rw [add_eq]
    exact fun c H2 e2 hc => k c H2 (e1.trans e2) hc
end
end K11
namespace K11
open PySem L2 GX KM
open Evl (Ex)
abbrev sSign : Stmt := inClass (top 9) 4
abbrev sWhole : Stmt := inClass (top 9) 5
abbrev sNeg : Stmt := inClass (top 9) 12
abbrev sOver : Stmt := inClass (top 9) 13
abbrev sSize : Stmt := inClass (top 9) 14
abbrev sBelow : Stmt := inClass (top 9) 15
abbrev sMost : Stmt := inClass (top 9) 16
abbrev sEq : Stmt := inClass (top 9) 17
section
variable {P : Program} {w : World} {K : PySem.W.Frag} {mg : Str → Option Value} {base : Heap}
theorem scSub : FnScope ["self", "other", "number", "top"] ["self", "other"] (defScope sSub) := ⟨rfl, rfl, rfl, by decide +kernel, rfl, by decide +kernel, by decide +kernel⟩
theorem ok_sub (R : RK P w K mg base) {f : Addr} {fd : FuncData} (F : Fun K "__sub__" "Ratio.__sub__" sSub f fd) : FnOk P w K mg base CX0 5 f fd ["self", "other"] (spBin R.C (· - ·)) := by
  refine F.ok scSub (fun vs H Q E h => ?_) (fun cdv A outer s H vs Q E hr h => ?_)
  · obtain ⟨a, v, r, s', n, m, rfl, _⟩ := h
    rfl
  · obtain ⟨a, v, r, s', n, m, rfl, hA, hv, zn, zm, hz, k⟩ := h
    have hr3 : Room 3 _ := hr.mono (by decide)
    have hr2 : Room 2 _ := hr.mono (by decide)
    refine ⟨_, pss_cons (ps_set (i := 2) scSub.nd rfl (Or.inl rfl) (pe_asR R hr (by rfl) (pa_cons (pv 1) pa_nil)))
      (pss_cons (ps_set (i := 3) scSub.nd rfl (Or.inl rfl) (pe_op op_sub (pe_op op_mulW (pe_fld (pv 0) rfl) (pe_bot R hr2 (pv 2))) (pe_op op_mulW (pe_top R hr2 (pv 2)) (pe_fld (pv 0) rfl))))
      (pss_one (ps_ret (pe_mk2 R hr3 (by rfl) (pa_cons (pv 3) (pa_cons (pe_op op_mulW (pe_fld (pv 0) rfl) (pe_bot R hr2 (pv 2))) pa_nil)))))), ?_⟩
    refine ⟨_, rfl, v, s', rfl, hv, fun b H1 e1 hb => ?_⟩
    obtain ⟨da, ha⟩ := hA.mono e1
    obtain ⟨db, hb'⟩ := id hb
    have p1 := zn.pos
    have p2 := zm.pos
    refine ⟨_, rfl, a, R.C, da, _, _, rfl, ha, R.T.cl, R.T.nT, pf_top _ _, _, rfl, b, db, _, rfl, hb', b, s', rfl, hb, _, _, rfl, rfl, wide_mul zn.num zm.den p1 p2 (by omega), ?_⟩
    refine ⟨_, rfl, b, db, _, rfl, hb', b, s', rfl, hb, _, rfl, a, R.C, da, _, _, rfl, ha, R.T.cl, R.T.nB, pf_bot _ _, _, _, rfl, rfl, wide_mul zm.num zn.den p2 p1 (by omega), _, _, rfl, rfl, ?_⟩
    refine ⟨_, rfl, _, rfl, a, R.C, da, _, _, rfl, ha, R.T.cl, R.T.nB, pf_bot _ _, _, rfl, b, db, _, rfl, hb', b, s', rfl, hb, _, _, rfl, rfl, wide_mul zn.den zm.den p1 p2 (by omega), ?_⟩
    have q0 : (r.den : Int) * (s'.den : Int) ≠ 0 := Int.mul_ne_zero (dz r) (dz s')
    refine make_pure q0 (lt_more (mul_lt zn.den zm.den) (by omega)) ?_
    rw [sub_eq]
    exact fun c H2 e2 hc => k c H2 (e1.trans e2) hc
theorem scMul : FnScope ["self", "other", "number"] ["self", "other"] (defScope sMul) := ⟨rfl, rfl, rfl, by decide +kernel, rfl, by decide +kernel, by decide +kernel⟩
theorem ok_mul (R : RK P w K mg base) {f : Addr} {fd : FuncData} (F : Fun K "__mul__" "Ratio.__mul__" sMul f fd) : FnOk P w K mg base CX0 5 f fd ["self", "other"] (spBin R.C (· * ·)) := by
  refine F.ok scMul (fun vs H Q E h => ?_) (fun cdv A outer s H vs Q E hr h => ?_)
  · obtain ⟨a, v, r, s', n, m, rfl, _⟩ := h
    rfl
  · obtain ⟨a, v, r, s', n, m, rfl, hA, hv, zn, zm, hz, k⟩ := h
    have hr3 : Room 3 _ := hr.mono (by decide)
    have hr2 : Room 2 _ := hr.mono (by decide)
    refine ⟨_, pss_cons (ps_set (i := 2) scMul.nd rfl (Or.inl rfl) (pe_asR R hr (by rfl) (pa_cons (pv 1) pa_nil)))
      (pss_one (ps_ret (pe_mk2 R hr3 (by rfl) (pa_cons (pe_op op_mulW (pe_fld (pv 0) rfl) (pe_top R hr2 (pv 2))) (pa_cons (pe_op op_mulW (pe_fld (pv 0) rfl) (pe_bot R hr2 (pv 2))) pa_nil))))), ?_⟩
    refine ⟨_, rfl, v, s', rfl, hv, fun b H1 e1 hb => ?_⟩
    obtain ⟨da, ha⟩ := hA.mono e1
    obtain ⟨db, hb'⟩ := id hb
    have p1 := zn.pos
    have p2 := zm.pos
    refine ⟨_, rfl, a, R.C, da, _, _, rfl, ha, R.T.cl, R.T.nT, pf_top _ _, _, rfl, b, db, _, rfl, hb', b, s', rfl, hb, _, _, rfl, rfl, wide_mul zn.num zm.num p1 p2 (by omega), ?_⟩
    refine ⟨_, rfl, a, R.C, da, _, _, rfl, ha, R.T.cl, R.T.nB, pf_bot _ _, _, rfl, b, db, _, rfl, hb', b, s', rfl, hb, _, _, rfl, rfl, wide_mul zn.den zm.den p1 p2 (by omega), ?_⟩
    have q0 : (r.den : Int) * (s'.den : Int) ≠ 0 := Int.mul_ne_zero (dz r) (dz s')
    refine make_pure q0 (lt_more (mul_lt zn.den zm.den) (by omega)) ?_
    rw [mul_eq]
    exact fun c H2 e2 hc => k c H2 (e1.trans e2) hc
def spNeg (C : Addr) : Sp := fun vs H Q _ => ∃ a r n, vs = [.ref a] ∧ RtAt C H a r ∧ Sz n r ∧ n ≤ 9000 ∧ RetR C (-r) H Q
theorem scNeg : FnScope ["self"] ["self"] (defScope sNeg) := ⟨rfl, rfl, rfl, by decide +kernel, rfl, by decide +kernel, by decide +kernel⟩
theorem ok_neg (R : RK P w K mg base) {f : Addr} {fd : FuncData} (F : Fun K "__neg__" "Ratio.__neg__" sNeg f fd) : FnOk P w K mg base CX0 4 f fd ["self"] (spNeg R.C) := by
  refine F.ok scNeg (fun vs H Q E h => ?_) (fun cdv A outer s H vs Q E hr h => ?_)
  · obtain ⟨a, r, n, rfl, _⟩ := h
    rfl
  · obtain ⟨a, r, n, rfl, ⟨da, ha⟩, zn, hz, k⟩ := h
    refine ⟨_, pss_one (ps_ret (pe_mk2 R hr (by rfl) (pa_cons (pe_un un_neg (pe_fld (pv 0) rfl)) (pa_cons (pe_fld (pv 0) rfl) pa_nil)))), ?_⟩
    refine ⟨_, rfl, a, R.C, da, _, _, rfl, ha, R.T.cl, R.T.nT, pf_top _ _, _, rfl, _, rfl, a, R.C, da, _, _, rfl, ha, R.T.cl, R.T.nB, pf_bot _ _, ?_⟩
    refine make_pure (dz r) (lt_more zn.den hz) ?_
    rw [neg_eq]
    exact k
/-- the size, without its sign -/
def spSize (C : Addr) : Sp := fun vs H Q _ => ∃ a r n, vs = [.ref a] ∧ RtAt C H a r ∧ Sz n r ∧ n ≤ 9000 ∧ RetR C (Rat.divInt (r.num.natAbs : Int) r.den) H Q
theorem scSize : FnScope ["self"] ["self"] (defScope sSize) := ⟨rfl, rfl, rfl, by decide +kernel, rfl, by decide +kernel, by decide +kernel⟩
theorem ok_size (R : RK P w K mg base) (ab : mg "abs" = none) {f : Addr} {fd : FuncData} (F : Fun K "size" "Ratio.size" sSize f fd) : FnOk P w K mg base CX0 4 f fd ["self"] (spSize R.C) := by
  refine F.ok scSize (fun vs H Q E h => ?_) (fun cdv A outer s H vs Q E hr h => ?_)
  · obtain ⟨a, r, n, rfl, _⟩ := h
    rfl
  · obtain ⟨a, r, n, rfl, ⟨da, ha⟩, zn, hz, k⟩ := h
    refine ⟨_, pss_one (ps_ret (pe_mk2 R hr (by rfl) (pa_cons (pe_callB call_abs (by rfl) ab (by decide +kernel) (pa_cons (pe_fld (pv 0) rfl) pa_nil)) (pa_cons (pe_fld (pv 0) rfl) pa_nil)))), ?_⟩
    refine ⟨_, rfl, a, R.C, da, _, _, rfl, ha, R.T.cl, R.T.nT, pf_top _ _, _, rfl, _, rfl, a, R.C, da, _, _, rfl, ha, R.T.cl, R.T.nB, pf_bot _ _, ?_⟩
    refine make_pure (dz r) (lt_more zn.den hz) ?_
    have e : (if r.num < 0 then -r.num else r.num) = (r.num.natAbs : Int) := by split <;> omega
    rw [e]
    exact k
def spSign (C : Addr) : Sp := fun vs H Q _ => ∃ a r, vs = [.ref a] ∧ RtAt C H a r ∧ Q (.int r.num.sign) H
theorem scSign : FnScope ["self"] ["self"] (defScope sSign) := ⟨rfl, rfl, rfl, by decide +kernel, rfl, by decide +kernel, by decide +kernel⟩
theorem ok_sign {f C : Addr} {fd : FuncData} (F : Fun K "sign" "Ratio.sign" sSign f fd) (T : Txt K mg C) : FnOk P w K mg base CX0 1 f fd ["self"] (spSign C) := by
  refine F.ok scSign (fun vs H Q E h => ?_) (fun cdv A outer s H vs Q E hr h => ?_)
  · obtain ⟨a, r, rfl, _⟩ := h
    rfl
  · obtain ⟨a, r, rfl, ⟨da, ha⟩, k⟩ := h
    refine ⟨_, pss_cons (ps_if (pt_cmpR op_lt (pe_fld (pv 0) rfl) pe_int (nomark _)) (pss_one (ps_ret (pe_un un_neg pe_int))) pss_nil)
      (pss_one (ps_ret (pe_ifExp (pt_cmpR op_gt (pe_fld (pv 0) rfl) pe_int (nomark _)) pe_int pe_int))), ?_⟩
    refine ⟨_, rfl, a, C, da, _, _, rfl, ha, T.cl, T.nT, pf_top _ _, _, _, rfl, rfl, _, rfl, ite2 (fun h => ?_) (fun h => ?_)⟩
    · have h' : r.num < 0 := of_decide_eq_true h
      rw [Int.sign_eq_neg_one_of_neg h'] at k
      exact ⟨_, rfl, k⟩
    · have h' : ¬ r.num < 0 := fun z => h (decide_eq_true z)
      refine ⟨_, rfl, a, C, da, _, _, rfl, ha, T.cl, T.nT, pf_top _ _, _, _, rfl, rfl, _, rfl, ite2 (fun g => ?_) (fun g => ?_)⟩
      · have g' : 0 < r.num := of_decide_eq_true g
        rw [Int.sign_eq_one_of_pos g'] at k
        exact k
      · have g' : ¬ 0 < r.num := fun z => g (decide_eq_true z)
        have e : r.num = 0 := by omega
        rw [e] at k
        exact k
def spWhole (C : Addr) : Sp := fun vs H Q _ => ∃ a r, vs = [.ref a] ∧ RtAt C H a r ∧ Q (.bl (decide ((r.den : Int) = 1))) H
theorem scWhole : FnScope ["self"] ["self"] (defScope sWhole) := ⟨rfl, rfl, rfl, by decide +kernel, rfl, by decide +kernel, by decide +kernel⟩
theorem dec_i {i j : Int} : decide (V.int i = V.int j) = decide (i = j) := by
  by_cases h : i = j
  · subst h; simp
  · rw [decide_eq_false h, decide_eq_false (fun z => h (by cases z; rfl))]
theorem ok_whole {f C : Addr} {fd : FuncData} (F : Fun K "is_whole" "Ratio.is_whole" sWhole f fd) (T : Txt K mg C) : FnOk P w K mg base CX0 1 f fd ["self"] (spWhole C) := by
  refine F.ok scWhole (fun vs H Q E h => ?_) (fun cdv A outer s H vs Q E hr h => ?_)
  · obtain ⟨a, r, rfl, _⟩ := h
    rfl
  · obtain ⟨a, r, rfl, ⟨da, ha⟩, k⟩ := h
    refine ⟨_, pss_one (ps_ret (pe_cmpR op_eq (pe_fld (pv 0) rfl) pe_int (nomark _))), ?_⟩
    refine ⟨_, rfl, a, C, da, _, _, rfl, ha, T.cl, T.nB, pf_bot _ _, rfl, ?_⟩
    rw [dec_i]
    exact k
end
end K11
namespace K11
open PySem L2 GX KM
open Evl (Ex)
abbrev sStr : Stmt := inClass (top 9) 18
abbrev sRepr : Stmt := inClass (top 9) 19
section
variable {P : Program} {w : World} {K : PySem.W.Frag} {mg : Str → Option Value} {base : Heap}
def spOver (C : Addr) : Sp := fun vs H Q _ => ∃ a v r s n m, vs = [.ref a, v] ∧ RtAt C H a r ∧ NumV C H v s ∧ s ≠ 0 ∧ Sz n r ∧ Sz m s ∧ n + m + 1 ≤ 9000 ∧ RetR C (r / s) H Q
theorem scOver : FnScope ["self", "other", "number"] ["self", "other"] (defScope sOver) := ⟨rfl, rfl, rfl, by decide +kernel, rfl, by decide +kernel, by decide +kernel⟩
theorem ok_over (R : RK P w K mg base) {pS gS : Addr} {fdS : FuncData} (hP : PropOf K R.C "sign" pS gS) (hS : FnOk P w K mg base CX0 1 gS fdS ["self"] (spSign R.C)) (bS : Binds K fdS ["self"] [])
    {f : Addr} {fd : FuncData} (F : Fun K "over" "Ratio.over" sOver f fd) : FnOk P w K mg base CX0 5 f fd ["self", "other"] (spOver R.C) := by
  refine F.ok scOver (fun vs H Q E h => ?_) (fun cdv A outer s H vs Q E hr h => ?_)
  · obtain ⟨a, v, r, s', n, m, rfl, _⟩ := h
    rfl
  · obtain ⟨a, v, r, s', n, m, rfl, hA, hv, s0, zn, zm, hz, k⟩ := h
    have hr3 : Room 3 _ := hr.mono (by decide)
    have hr2 : Room 2 _ := hr.mono (by decide)
    refine ⟨_, pss_cons (ps_set (i := 2) scOver.nd rfl (Or.inl rfl) (pe_asR R hr (by rfl) (pa_cons (pv 1) pa_nil)))
      (pss_cons (ps_if (pt_cmpR op_eq (pe_prop (pv 2) R.T.cl hP hS hr2 bS .nil pass0 rfl) pe_int (nomark _)) (pss_one ps_never) pss_nil)
      (pss_one (ps_ret (pe_mk2 R hr3 (by rfl) (pa_cons (pe_op op_mulW (pe_fld (pv 0) rfl) (pe_bot R hr2 (pv 2))) (pa_cons (pe_op op_mulW (pe_fld (pv 0) rfl) (pe_top R hr2 (pv 2))) pa_nil)))))), ?_⟩
    refine ⟨_, rfl, v, s', rfl, hv, fun b H1 e1 hb => ?_⟩
    obtain ⟨da, ha⟩ := hA.mono e1
    obtain ⟨db, hb'⟩ := id hb
    have p1 := zn.pos
    have p2 := zm.pos
    have n0 : s'.num ≠ 0 := fun z => s0 (Rat.num_eq_zero.mp z)
    refine ⟨_, rfl, b, db, _, rfl, hb', b, s', rfl, hb, rfl, _, rfl, ?_⟩
    rw [dec_i, decide_eq_false (fun z => n0 (Int.sign_eq_zero_iff_zero.mp z))]
    refine iteF ?_
    refine ⟨_, rfl, a, R.C, da, _, _, rfl, ha, R.T.cl, R.T.nT, pf_top _ _, _, rfl, b, db, _, rfl, hb', b, s', rfl, hb, _, _, rfl, rfl, wide_mul zn.num zm.den p1 p2 (by omega), ?_⟩
    refine ⟨_, rfl, a, R.C, da, _, _, rfl, ha, R.T.cl, R.T.nB, pf_bot _ _, _, rfl, b, db, _, rfl, hb', b, s', rfl, hb, _, _, rfl, rfl, wide_mul zn.den zm.num p1 p2 (by omega), ?_⟩
    have q0 : (r.den : Int) * s'.num ≠ 0 := Int.mul_ne_zero (dz r) n0
    refine make_pure q0 (lt_more (mul_lt zn.den zm.num) (by omega)) ?_
    rw [over_eq]
    exact fun c H2 e2 hc => k c H2 (e1.trans e2) hc
/-- a bool comes back, the heap grown -/
def spCmp (C : Addr) (g : Rat → Rat → Bool) : Sp := fun vs H Q _ => ∃ a v r s n m, vs = [.ref a, v] ∧ RtAt C H a r ∧ NumV C H v s ∧ Sz n r ∧ Sz m s ∧ n + m + 1 ≤ 9000 ∧ ∀ H', Ex H H' → Q (.bl (g r s)) H'
theorem scBelow : FnScope ["self", "other", "number"] ["self", "other"] (defScope sBelow) := ⟨rfl, rfl, rfl, by decide +kernel, rfl, by decide +kernel, by decide +kernel⟩
theorem ok_below (R : RK P w K mg base) {f : Addr} {fd : FuncData} (F : Fun K "is_below" "Ratio.is_below" sBelow f fd) : FnOk P w K mg base CX0 5 f fd ["self", "other"] (spCmp R.C fun r s => decide (r < s)) := by
  refine F.ok scBelow (fun vs H Q E h => ?_) (fun cdv A outer s H vs Q E hr h => ?_)
  · obtain ⟨a, v, r, s', n, m, rfl, _⟩ := h
    rfl
  · obtain ⟨a, v, r, s', n, m, rfl, hA, hv, zn, zm, hz, k⟩ := h
    have hr2 : Room 2 _ := hr.mono (by decide)
    refine ⟨_, pss_cons (ps_set (i := 2) scBelow.nd rfl (Or.inl rfl) (pe_asR R hr (by rfl) (pa_cons (pv 1) pa_nil)))
      (pss_one (ps_ret (pe_cmpR op_lt (pe_op op_mulW (pe_fld (pv 0) rfl) (pe_bot R hr2 (pv 2))) (pe_op op_mulW (pe_top R hr2 (pv 2)) (pe_fld (pv 0) rfl)) (nomark _)))), ?_⟩
    refine ⟨_, rfl, v, s', rfl, hv, fun b H1 e1 hb => ?_⟩
    obtain ⟨da, ha⟩ := hA.mono e1
    obtain ⟨db, hb'⟩ := id hb
    have p1 := zn.pos
    have p2 := zm.pos
    refine ⟨_, rfl, a, R.C, da, _, _, rfl, ha, R.T.cl, R.T.nT, pf_top _ _, _, rfl, b, db, _, rfl, hb', b, s', rfl, hb, _, _, rfl, rfl, wide_mul zn.num zm.den p1 p2 (by omega), ?_⟩
    refine ⟨_, rfl, b, db, _, rfl, hb', b, s', rfl, hb, _, rfl, a, R.C, da, _, _, rfl, ha, R.T.cl, R.T.nB, pf_bot _ _, _, _, rfl, rfl, wide_mul zm.num zn.den p2 p1 (by omega), _, _, rfl, rfl, ?_⟩
    have t : Q (.bl (decide (r < s'))) H1 := k H1 e1
    rw [decide_eq_decide.mpr (lt_iff r s')] at t
    exact t
theorem scMost : FnScope ["self", "other", "number"] ["self", "other"] (defScope sMost) := ⟨rfl, rfl, rfl, by decide +kernel, rfl, by decide +kernel, by decide +kernel⟩
theorem ok_most (R : RK P w K mg base) {f : Addr} {fd : FuncData} (F : Fun K "is_at_most" "Ratio.is_at_most" sMost f fd) : FnOk P w K mg base CX0 5 f fd ["self", "other"] (spCmp R.C fun r s => decide (r ≤ s)) := by
  refine F.ok scMost (fun vs H Q E h => ?_) (fun cdv A outer s H vs Q E hr h => ?_)
  · obtain ⟨a, v, r, s', n, m, rfl, _⟩ := h
    rfl
  · obtain ⟨a, v, r, s', n, m, rfl, hA, hv, zn, zm, hz, k⟩ := h
    have hr2 : Room 2 _ := hr.mono (by decide)
    refine ⟨_, pss_cons (ps_set (i := 2) scMost.nd rfl (Or.inl rfl) (pe_asR R hr (by rfl) (pa_cons (pv 1) pa_nil)))
      (pss_one (ps_ret (pe_cmpR op_le (pe_op op_mulW (pe_fld (pv 0) rfl) (pe_bot R hr2 (pv 2))) (pe_op op_mulW (pe_top R hr2 (pv 2)) (pe_fld (pv 0) rfl)) (nomark _)))), ?_⟩
    refine ⟨_, rfl, v, s', rfl, hv, fun b H1 e1 hb => ?_⟩
    obtain ⟨da, ha⟩ := hA.mono e1
    obtain ⟨db, hb'⟩ := id hb
    have p1 := zn.pos
    have p2 := zm.pos
    refine ⟨_, rfl, a, R.C, da, _, _, rfl, ha, R.T.cl, R.T.nT, pf_top _ _, _, rfl, b, db, _, rfl, hb', b, s', rfl, hb, _, _, rfl, rfl, wide_mul zn.num zm.den p1 p2 (by omega), ?_⟩
    refine ⟨_, rfl, b, db, _, rfl, hb', b, s', rfl, hb, _, rfl, a, R.C, da, _, _, rfl, ha, R.T.cl, R.T.nB, pf_bot _ _, _, _, rfl, rfl, wide_mul zm.num zn.den p2 p1 (by omega), _, _, rfl, rfl, ?_⟩
    have t : Q (.bl (decide (r ≤ s'))) H1 := k H1 e1
    rw [decide_eq_decide.mpr (le_iff r s')] at t
    exact t
theorem dec_rat (r s : Rat) : decide (r = s) = (decide (r.num = s.num) && decide ((r.den : Int) = s.den)) := by
  by_cases h : r = s
  · subst h; simp
  · rw [decide_eq_false h]
    symm
    rw [Bool.eq_false_iff]
    intro z
    rw [Bool.and_eq_true] at z
    exact h ((eq_iff r s).mpr ⟨of_decide_eq_true z.1, of_decide_eq_true z.2⟩)
/-- == : with a Ratio by worth, with an int never -/
def spEqR (C : Addr) : Sp := fun vs H Q _ => ∃ a v r, vs = [.ref a, v] ∧ RtAt C H a r ∧
  ((∃ i, v = .int i ∧ Q (.bl false) H) ∨ ∃ b s, v = .ref b ∧ RtAt C H b s ∧ Q (.bl (decide (r = s))) H)
theorem scEq : FnScope ["self", "other"] ["self", "other"] (defScope sEq) := ⟨rfl, rfl, rfl, by decide +kernel, rfl, by decide +kernel, by decide +kernel⟩
theorem ok_eq {f C : Addr} {fd : FuncData} (F : Fun K "__eq__" "Ratio.__eq__" sEq f fd) (T : Txt K mg C) : FnOk P w K mg base CX0 1 f fd ["self", "other"] (spEqR C) := by
  refine F.ok scEq (fun vs H Q E h => ?_) (fun cdv A outer s H vs Q E hr h => ?_)
  · obtain ⟨a, v, r, rfl, _⟩ := h
    rfl
  · obtain ⟨a, v, r, rfl, hA, h⟩ := h
    refine ⟨_, pss_one (ps_ret (pe_and (pe_callB call_isi (by rfl) T.isi (by decide +kernel) (pa_cons (pv 1) (pa_cons (pe_glob (v := .ref C) (by rfl) T.mgC rfl) pa_nil)))
      (pe_and (pe_cmpR op_eq (pe_fld (pv 0) rfl) (pe_fld (pv 1) rfl) (nomark _)) (pe_one (pe_cmpR op_eq (pe_fld (pv 0) rfl) (pe_fld (pv 1) rfl) (nomark _)))))), ?_⟩
    rcases h with ⟨i, rfl, k⟩ | ⟨b, s', rfl, hB, k⟩
    · exact ⟨_, rfl, _, _, _, _, false, rfl, .own C, .base (.int i), T.kI, false, rfl, iteF k⟩
    · refine ⟨_, rfl, _, _, _, _, true, rfl, .own C, tyR T hB, T.kC, true, rfl, iteT ?_⟩
      obtain ⟨da, ha⟩ := hA
      obtain ⟨db, hb⟩ := hB
      refine ⟨_, rfl, a, C, da, _, _, rfl, ha, T.cl, T.nT, pf_top _ _, _, rfl, b, C, db, _, _, rfl, hb, T.cl, T.nT, pf_top _ _, rfl, _, rfl, ?_⟩
      rw [dec_i]
      rw [dec_rat r s'] at k
      cases hn : decide (r.num = s'.num) with
      | true =>
        rw [hn, Bool.true_and] at k
        refine iteT ?_
        refine ⟨_, rfl, a, C, da, _, _, rfl, ha, T.cl, T.nB, pf_bot _ _, _, rfl, b, C, db, _, _, rfl, hb, T.cl, T.nB, pf_bot _ _, rfl, ?_⟩
        rw [dec_i]
        exact k
      | false =>
        rw [hn, Bool.false_and] at k
        exact iteF k
/-- the texts -/
def iT (i : Int) : Str := Str.ofString (toString i)
def stT (r : Rat) : Str := if (r.den : Int) = 1 then iT r.num else (iT r.num ++ Str.ofString "/") ++ iT r.den
def rpT (r : Rat) : Str := (((Str.ofString "Ratio(" ++ iT r.num) ++ Str.ofString ", ") ++ iT r.den) ++ Str.ofString ")"
def spStr (C : Addr) : Sp := fun vs H Q _ => ∃ a r n, vs = [.ref a] ∧ RtAt C H a r ∧ Sz n r ∧ n ≤ 1900 ∧ Q (.str (stT r)) H
def spRepr (C : Addr) : Sp := fun vs H Q _ => ∃ a r n, vs = [.ref a] ∧ RtAt C H a r ∧ Sz n r ∧ n ≤ 1900 ∧ Q (.str (rpT r)) H
theorem log1920 {j : Int} {n : Nat} (h : j.natAbs < 2 ^ n) (h0 : 0 < n) (hn : n ≤ 1900) : j.natAbs.log2 < 1920 :=
  Nat.lt_of_lt_of_le (PySem.Flt.log2_lt_of h0 h) (by omega)
theorem len_i {j : Int} (h : j.natAbs.log2 < 1920) : (iT j).length ≤ 1921 := PyProof.Rows.int_text_len_1921 h
theorem scStr : FnScope ["self"] ["self"] (defScope sStr) := ⟨rfl, rfl, rfl, by decide +kernel, rfl, by decide +kernel, by decide +kernel⟩
theorem scRepr : FnScope ["self"] ["self"] (defScope sRepr) := ⟨rfl, rfl, rfl, by decide +kernel, rfl, by decide +kernel, by decide +kernel⟩
theorem ap_le {x y : Str} {a b c : Nat} (h1 : x.length ≤ a) (h2 : y.length ≤ b) (h : a + b ≤ c) : (x ++ y).length ≤ c := by
  rw [Str.length_append]
  omega
theorem line_of {n : Nat} (h : n ≤ 1000000) : n ≤ sizeLine := by rw [sizeLine_eq]; omega
theorem ok_str {f C : Addr} {fd : FuncData} (F : Fun K "__str__" "Ratio.__str__" sStr f fd) (T : Txt K mg C) : FnOk P w K mg base CX0 1 f fd ["self"] (spStr C) := by
  refine F.ok scStr (fun vs H Q E h => ?_) (fun cdv A outer s H vs Q E hr h => ?_)
  · obtain ⟨a, r, n, rfl, _⟩ := h
    rfl
  · obtain ⟨a, r, n, rfl, ⟨da, ha⟩, zn, hz, k⟩ := h
    have l1 := log1920 zn.num zn.pos hz
    have l2 := log1920 zn.den zn.pos hz
    refine ⟨_, pss_cons (ps_if (pt_cmpR op_eq (pe_fld (pv 0) rfl) pe_int (nomark _)) (pss_one (ps_ret (pe_joined1 (pe_fmt (pe_fld (pv 0) rfl))))) pss_nil)
      (pss_one (ps_ret (pe_joined (.cons (pe_fmt (pe_fld (pv 0) rfl)) (.cons pe_str (.cons (pe_fmt (pe_fld (pv 0) rfl)) .nil)))))), ?_⟩
    refine ⟨_, rfl, a, C, da, _, _, rfl, ha, T.cl, T.nB, pf_bot _ _, rfl, _, rfl, ?_⟩
    rw [dec_i]
    unfold stT at k
    refine ite2 (fun z => ?_) (fun z => ?_)
    · rw [if_pos (of_decide_eq_true z)] at k
      exact ⟨_, rfl, a, C, da, _, _, rfl, ha, T.cl, T.nT, pf_top _ _, .inr ⟨_, rfl, l1, k⟩⟩
    · rw [if_neg (fun h => z (decide_eq_true h))] at k
      have m1 := len_i l1
      have m2 := len_i l2
      have e1 : (Str.ofString "/").length ≤ 1 := by decide +kernel
      have g1 := ap_le (c := 1922) m1 e1 (by omega)
      have g2 := ap_le (c := 4000) g1 m2 (by omega)
      have g0 : (Str.empty ++ iT r.num).length ≤ sizeLine := by rw [Str.empty_append]; exact line_of (by omega)
      refine ⟨_, rfl, a, C, da, _, _, rfl, ha, T.cl, T.nT, pf_top _ _, .inr ⟨_, rfl, l1, _, rfl, g0, ?_⟩⟩
      refine ⟨_, rfl, (by show ((Str.empty ++ iT r.num) ++ Str.ofString "/").length ≤ sizeLine; rw [Str.empty_append]; exact line_of (by omega)), ?_⟩
      refine ⟨_, rfl, a, C, da, _, _, rfl, ha, T.cl, T.nB, pf_bot _ _, .inr ⟨_, rfl, l2, _, rfl, (by show (((Str.empty ++ iT r.num) ++ Str.ofString "/") ++ iT r.den).length ≤ sizeLine; rw [Str.empty_append]; exact line_of (by omega)), ?_⟩⟩
      show Q (.str (((Str.empty ++ iT r.num) ++ Str.ofString "/") ++ iT r.den)) H
      rw [Str.empty_append]
      exact k
theorem ok_repr {f C : Addr} {fd : FuncData} (F : Fun K "__repr__" "Ratio.__repr__" sRepr f fd) (T : Txt K mg C) : FnOk P w K mg base CX0 1 f fd ["self"] (spRepr C) := by
  refine F.ok scRepr (fun vs H Q E h => ?_) (fun cdv A outer s H vs Q E hr h => ?_)
  · obtain ⟨a, r, n, rfl, _⟩ := h
    rfl
  · obtain ⟨a, r, n, rfl, ⟨da, ha⟩, zn, hz, k⟩ := h
    have l1 := log1920 zn.num zn.pos hz
    have l2 := log1920 zn.den zn.pos hz
    have m1 := len_i l1
    have m2 := len_i l2
    have c0 : (Str.ofString "Ratio(").length ≤ 6 := by decide +kernel
    have c1 : (Str.ofString ", ").length ≤ 2 := by decide +kernel
    have c2 : (Str.ofString ")").length ≤ 1 := by decide +kernel
    have g1 := ap_le (c := 1927) c0 m1 (by omega)
    have g2 := ap_le (c := 1929) g1 c1 (by omega)
    have g3 := ap_le (c := 3850) g2 m2 (by omega)
    have g4 := ap_le (c := 3851) g3 c2 (by omega)
    refine ⟨_, pss_one (ps_ret (pe_joined (.cons pe_str (.cons (pe_fmt (pe_fld (pv 0) rfl)) (.cons pe_str (.cons (pe_fmt (pe_fld (pv 0) rfl)) (.cons pe_str .nil))))))), ?_⟩
    refine ⟨_, rfl, (by show (Str.empty ++ Str.ofString "Ratio(").length ≤ sizeLine; rw [Str.empty_append]; exact line_of (by omega)), ?_⟩
    refine ⟨_, rfl, a, C, da, _, _, rfl, ha, T.cl, T.nT, pf_top _ _, .inr ⟨_, rfl, l1, _, rfl, (by show ((Str.empty ++ Str.ofString "Ratio(") ++ iT r.num).length ≤ sizeLine; rw [Str.empty_append]; exact line_of (by omega)), ?_⟩⟩
    refine ⟨_, rfl, (by show (((Str.empty ++ Str.ofString "Ratio(") ++ iT r.num) ++ Str.ofString ", ").length ≤ sizeLine; rw [Str.empty_append]; exact line_of (by omega)), ?_⟩
    refine ⟨_, rfl, a, C, da, _, _, rfl, ha, T.cl, T.nB, pf_bot _ _, .inr ⟨_, rfl, l2, _, rfl, (by show ((((Str.empty ++ Str.ofString "Ratio(") ++ iT r.num) ++ Str.ofString ", ") ++ iT r.den).length ≤ sizeLine; rw [Str.empty_append]; exact line_of (by omega)), ?_⟩⟩
    refine ⟨_, rfl, (by show (((((Str.empty ++ Str.ofString "Ratio(") ++ iT r.num) ++ Str.ofString ", ") ++ iT r.den) ++ Str.ofString ")").length ≤ sizeLine; rw [Str.empty_append]; exact line_of (by omega)), ?_⟩
    show Q (.str (((((Str.empty ++ Str.ofString "Ratio(") ++ iT r.num) ++ Str.ofString ", ") ++ iT r.den) ++ Str.ofString ")")) H
    rw [Str.empty_append]
    exact k
end
end K11
namespace K11
open PySem L2 GX KM
open Evl (Ex)
abbrev sIsL : Stmt := top 3
abbrev sTotal : Stmt := inClass (top 9) 1
abbrev sRadd : Stmt := inClass (top 9) 7
abbrev sRsub : Stmt := inClass (top 9) 9
abbrev sRmul : Stmt := inClass (top 9) 11
section
variable {P : Program} {w : World} {K : PySem.W.Frag} {mg : Str → Option Value} {base : Heap}
/-- a + b and the like, the left one a Ratio -/
structure BinK (R : RK P w K mg base) (op : Operator) (g : Rat → Rat → Rat) where
  f : Addr
  fd : FuncData
  F : FnOk P w K mg base CX0 5 f fd ["self", "other"] (spBin R.C g)
  b : Binds K fd ["self", "other"] []
  sf : PySem.W.selfFirst K R.C = true
  at_ : PySem.W.findIn K (.ref R.C) (PySem.dunder op.info.2) = some (some (.ref f))
  fn : PySem.W.isFn K (.ref f) = true
  fr : Addr
  rat : PySem.W.findIn K (.ref R.C) (dunderR op.info.2) = some (some (.ref fr))
  rfn : PySem.W.isFn K (.ref fr) = true
  fo : Option Value
  ro : Option Value
  i1 : PySem.W.findIn K (.type "int") (PySem.dunder op.info.2) = some fo
  i2 : PySem.W.findIn K (.type "int") (dunderR op.info.2) = some ro
  siC : PySem.W.subIn K (.type "int") (.ref R.C) = some false
def rBin (C : Addr) (g : Rat → Rat → Rat) : R2 := fun x y H Q => ∃ a r s n m, x = .ref a ∧ RtAt C H a r ∧ NumV C H y s ∧ Sz n r ∧ Sz m s ∧ n + m + 1 ≤ 9000 ∧ RetR C (g r s) H Q
theorem BinK.op {X : Cx} {R : RK X.prog X.w X.K X.mg X.base} {op : Operator} {g : Rat → Rat → Rat} (B : BinK R op g) (hr : Room 5 X.A) : OpR X (binaryOp op) (rBin R.C g) := by
  have h1 : OpR X (binaryOp op) (rOwn2 R.C (spBin R.C g) E0) := op_own2 B.F hr B.b B.sf B.at_ B.fn
  have h2 : OpR X (binaryOp op) (rOwnN R.C (spBin R.C g) E0) := op_ownN B.F hr B.b B.sf B.at_ B.fn B.rat (.inr ⟨_, rfl⟩) B.i1 B.i2 B.siC
  intro pins s σ H x y u v Q I rx ry h
  obtain ⟨a, r, s', n, m, rfl, ha, hy, zn, zm, hz, k⟩ := h
  rcases id hy with ⟨i, rfl, rfl⟩ | ⟨b, rfl, hb⟩
  · obtain ⟨da, ha'⟩ := id ha
    exact h2 pins s σ H _ _ u v Q I rx ry ⟨a, i, da, _, rfl, rfl, ha', a, _, r, _, n, m, rfl, ha, hy, zn, zm, hz, k⟩
  · obtain ⟨da, ha'⟩ := id ha
    obtain ⟨db, hb'⟩ := id hb
    exact h1 pins s σ H _ _ u v Q I rx ry ⟨a, b, da, db, _, _, rfl, rfl, ha', hb', a, _, r, s', n, m, rfl, ha, hy, zn, zm, hz, k⟩
/-- n op a -/
def spRBin (C : Addr) (g : Rat → Rat → Rat) : Sp := fun vs H Q _ => ∃ a i r n m, vs = [.ref a, .int i] ∧ RtAt C H a r ∧ Sz n r ∧ Sz m (i : Rat) ∧ n + m + 1 ≤ 9000 ∧ RetR C (g (i : Rat) r) H Q
theorem scRadd : FnScope ["self", "other"] ["self", "other"] (defScope sRadd) := ⟨rfl, rfl, rfl, by decide +kernel, rfl, by decide +kernel, by decide +kernel⟩
theorem scRsub : FnScope ["self", "other"] ["self", "other"] (defScope sRsub) := ⟨rfl, rfl, rfl, by decide +kernel, rfl, by decide +kernel, by decide +kernel⟩
theorem scRmul : FnScope ["self", "other"] ["self", "other"] (defScope sRmul) := ⟨rfl, rfl, rfl, by decide +kernel, rfl, by decide +kernel, by decide +kernel⟩
theorem ok_radd (R : RK P w K mg base) (B : BinK R .Add (· + ·)) {f : Addr} {fd : FuncData} (F : Fun K "__radd__" "Ratio.__radd__" sRadd f fd) : FnOk P w K mg base CX0 6 f fd ["self", "other"] (spRBin R.C (· + ·)) := by
  refine F.ok scRadd (fun vs H Q E h => ?_) (fun cdv A outer s H vs Q E hr h => ?_)
  · obtain ⟨a, i, r, n, m, rfl, _⟩ := h
    rfl
  · obtain ⟨a, i, r, n, m, rfl, hA, zn, zm, hz, k⟩ := h
    have hr4 : Room 4 _ := hr.mono (by decide)
    have hr1 : Room 1 _ := hr.mono (by decide)
    refine ⟨_, pss_cons (ps_if (pt_not (pt_val (pe_call R.isI hr1 (by rfl) R.Zi.m R.Zi.F.kp R.Zi.b .nil pass0 (pa_cons (pv 1) pa_nil)))) (pss_one ps_never) pss_nil)
      (pss_one (ps_ret (pe_op (B.op hr) (pe_asR R hr4 (by rfl) (pa_cons (pv 1) pa_nil)) (pv 0)))), ?_⟩
    refine ⟨_, rfl, _, rfl, true, rfl, iteF ?_⟩
    refine ⟨_, rfl, _, _, rfl, .inl ⟨i, rfl, rfl⟩, fun b H1 e1 hb => ?_⟩
    exact ⟨_, rfl, b, _, r, m, n, rfl, hb, .inr ⟨a, rfl, hA.mono e1⟩, zm, zn, by omega, fun c H2 e2 hc => k c H2 (e1.trans e2) hc⟩
theorem ok_rsub (R : RK P w K mg base) (B : BinK R .Sub (· - ·)) {f : Addr} {fd : FuncData} (F : Fun K "__rsub__" "Ratio.__rsub__" sRsub f fd) : FnOk P w K mg base CX0 6 f fd ["self", "other"] (spRBin R.C (· - ·)) := by
  refine F.ok scRsub (fun vs H Q E h => ?_) (fun cdv A outer s H vs Q E hr h => ?_)
  · obtain ⟨a, i, r, n, m, rfl, _⟩ := h
    rfl
  · obtain ⟨a, i, r, n, m, rfl, hA, zn, zm, hz, k⟩ := h
    have hr4 : Room 4 _ := hr.mono (by decide)
    have hr1 : Room 1 _ := hr.mono (by decide)
    refine ⟨_, pss_cons (ps_if (pt_not (pt_val (pe_call R.isI hr1 (by rfl) R.Zi.m R.Zi.F.kp R.Zi.b .nil pass0 (pa_cons (pv 1) pa_nil)))) (pss_one ps_never) pss_nil)
      (pss_one (ps_ret (pe_op (B.op hr) (pe_asR R hr4 (by rfl) (pa_cons (pv 1) pa_nil)) (pv 0)))), ?_⟩
    refine ⟨_, rfl, _, rfl, true, rfl, iteF ?_⟩
    refine ⟨_, rfl, _, _, rfl, .inl ⟨i, rfl, rfl⟩, fun b H1 e1 hb => ?_⟩
    exact ⟨_, rfl, b, _, r, m, n, rfl, hb, .inr ⟨a, rfl, hA.mono e1⟩, zm, zn, by omega, fun c H2 e2 hc => k c H2 (e1.trans e2) hc⟩
theorem ok_rmul (R : RK P w K mg base) (B : BinK R .Mult (· * ·)) {f : Addr} {fd : FuncData} (F : Fun K "__rmul__" "Ratio.__rmul__" sRmul f fd) : FnOk P w K mg base CX0 6 f fd ["self", "other"] (spRBin R.C (· * ·)) := by
  refine F.ok scRmul (fun vs H Q E h => ?_) (fun cdv A outer s H vs Q E hr h => ?_)
  · obtain ⟨a, i, r, n, m, rfl, _⟩ := h
    rfl
  · obtain ⟨a, i, r, n, m, rfl, hA, zn, zm, hz, k⟩ := h
    have hr4 : Room 4 _ := hr.mono (by decide)
    have hr1 : Room 1 _ := hr.mono (by decide)
    refine ⟨_, pss_cons (ps_if (pt_not (pt_val (pe_call R.isI hr1 (by rfl) R.Zi.m R.Zi.F.kp R.Zi.b .nil pass0 (pa_cons (pv 1) pa_nil)))) (pss_one ps_never) pss_nil)
      (pss_one (ps_ret (pe_op (B.op hr) (pe_asR R hr4 (by rfl) (pa_cons (pv 1) pa_nil)) (pv 0)))), ?_⟩
    refine ⟨_, rfl, _, rfl, true, rfl, iteF ?_⟩
    refine ⟨_, rfl, _, _, rfl, .inl ⟨i, rfl, rfl⟩, fun b H1 e1 hb => ?_⟩
    exact ⟨_, rfl, b, _, r, m, n, rfl, hb, .inr ⟨a, rfl, hA.mono e1⟩, zm, zn, by omega, fun c H2 e2 hc => k c H2 (e1.trans e2) hc⟩
/-- a list or a tuple -/
def spIsL : Sp := fun vs H Q _ => ∃ p xs, vs = [.ref p] ∧ (H p = some (.lst xs) ∨ H p = some (.tup xs)) ∧ ∀ H', Ex H H' → Q (.bl true) H'
theorem scIsL : FnScope ["value"] ["value"] (defScope sIsL) := ⟨rfl, rfl, rfl, by decide +kernel, rfl, by decide +kernel, by decide +kernel⟩
theorem ok_isL {C : Addr} (T : Txt K mg C) (ml : mg "list" = none) (mt : mg "tuple" = none) {f : Addr} {fd : FuncData} (F : Fun K "is_list" "is_list" sIsL f fd) : FnOk P w K mg base CX0 1 f fd ["value"] spIsL := by
  refine F.ok scIsL (fun vs H Q E h => ?_) (fun cdv A outer s H vs Q E hr h => ?_)
  · obtain ⟨p, xs, rfl, _⟩ := h
    rfl
  · obtain ⟨p, xs, rfl, hp, k⟩ := h
    refine ⟨_, pss_one (ps_ret (pe_callB call_isiT (by rfl) T.isi (by decide +kernel) (pa_cons (pv 0) (pa_cons (pe_tup (pa_cons (pe_bltn (v := .ty "list") (by rfl) ml (by decide +kernel) rfl) (pa_cons (pe_bltn (v := .ty "tuple") (by rfl) mt (by decide +kernel) rfl) pa_nil))) pa_nil)))), ?_⟩
    refine ⟨_, rfl, (by show 2 ≤ sizeLine; decide), fun t ht => ?_⟩
    have e : Ex H (upd H t (.tup [.ty "list", .ty "tuple"])) := Evl.Ex.new ht
    rcases hp with hp | hp
    · exact ⟨_, t, _, _, [.type "list", .type "tuple"], true, rfl, upd_same, .cons (.ty _) (.cons (.ty _) .nil), .base (.lst (e _ _ hp)),
        kitAny_cons (b := true) (kit_ty (by decide +kernel)) (fun z => nomatch z) (fun _ => rfl), k _ e⟩
    · exact ⟨_, t, _, _, [.type "list", .type "tuple"], true, rfl, upd_same, .cons (.ty _) (.cons (.ty _) .nil), .base (.tup (e _ _ hp)),
        kitAny_cons (b := false) (kit_ty (by decide +kernel)) (fun _ => kitAny_cons (b := true) (kit_ty (by decide +kernel)) (fun z => nomatch z) (fun _ => rfl)) (fun z => nomatch z), k _ e⟩
end
end K11
namespace KM
theorem Sz.add {n m : Nat} {r s : Rat} (h : Sz n r) (g : Sz m s) : Sz (n + m + 1) (r + s) := by
  rw [← add_eq]
  refine Sz.low (add_lt (mul_lt h.num g.den) ?_) (lt_more (mul_lt h.den g.den) (by omega)) (Int.mul_ne_zero (dz r) (dz s))
  rw [Nat.add_comm n m]
  exact mul_lt g.num h.den
theorem Sz.sub {n m : Nat} {r s : Rat} (h : Sz n r) (g : Sz m s) : Sz (n + m + 1) (r - s) := by
  rw [← sub_eq]
  refine Sz.low (sub_lt (mul_lt h.num g.den) ?_) (lt_more (mul_lt h.den g.den) (by omega)) (Int.mul_ne_zero (dz r) (dz s))
  rw [Nat.add_comm n m]
  exact mul_lt g.num h.den
theorem Sz.mul {n m : Nat} {r s : Rat} (h : Sz n r) (g : Sz m s) : Sz (n + m) (r * s) := by
  rw [← mul_eq]
  exact Sz.low (mul_lt h.num g.num) (mul_lt h.den g.den) (Int.mul_ne_zero (dz r) (dz s))
theorem Sz.neg {n : Nat} {r : Rat} (h : Sz n r) : Sz n (-r) := by
  rw [← neg_eq]
  exact Sz.low (by rw [Int.natAbs_neg]; exact h.num) h.den (dz r)
theorem Sz.over {n m : Nat} {r s : Rat} (h : Sz n r) (g : Sz m s) (s0 : s ≠ 0) : Sz (n + m) (r / s) := by
  rw [← over_eq]
  exact Sz.low (mul_lt h.num g.den) (mul_lt h.den g.num) (Int.mul_ne_zero (dz r) (fun z => s0 (Rat.num_eq_zero.mp z)))
theorem Sz.zero : Sz 1 (0 : Rat) := ⟨by decide, by decide⟩
theorem Sz.int {n : Nat} {i : Int} (h : i.natAbs < 2 ^ n) (h0 : 0 < n) : Sz n (i : Rat) := by
  refine ⟨h, ?_⟩
  show (1 : Int).natAbs < 2 ^ n
  have := Nat.pow_le_pow_right (show 0 < 2 by decide) h0
  simp at this ⊢
  omega
/-- one behind the other -/
def sumL (rs : List Rat) : Rat := rs.foldl (· + ·) 0
theorem sumL_snoc (rs : List Rat) (r : Rat) : sumL (rs ++ [r]) = sumL rs + r := by unfold sumL; rw [List.foldl_append]; rfl
theorem take_snoc {rs : List Rat} {i : Nat} {r : Rat} (h : rs[i]? = some r) : sumL (rs.take (i + 1)) = sumL (rs.take i) + r := by
  rw [List.take_add_one, h]
  exact sumL_snoc _ _
theorem Sz.sum {m : Nat} : ∀ (i : Nat) (rs : List Rat), i ≤ rs.length → (∀ r ∈ rs, Sz m r) → Sz (1 + (m + 1) * i) (sumL (rs.take i))
  | 0, rs, _, _ => by simpa [sumL] using Sz.zero
  | i + 1, rs, hi, h => by
    have g := Sz.sum i rs (by omega) h
    have hl : i < rs.length := by omega
    rw [take_snoc (List.getElem?_eq_getElem hl)]
    exact (g.add (h _ (List.getElem_mem hl))).mono (by rw [Nat.mul_add]; omega)
end KM
namespace K11
open PySem L2 GX KM
open Evl (Ex)
/-- the values of a list are NUMBERS of these worths -/
def NumsV (C : Addr) (H : Hp) (xs : List V) (rs : List Rat) : Prop := xs.length = rs.length ∧ ∀ (i : Nat) (x : V), xs[i]? = some x → ∃ r, rs[i]? = some r ∧ NumV C H x r
theorem NumsV.mono {C : Addr} {H H' : Hp} {xs : List V} {rs : List Rat} (h : NumsV C H xs rs) (e : Ex H H') : NumsV C H' xs rs :=
  ⟨h.1, fun i x hx => let ⟨r, h1, h2⟩ := h.2 i x hx; ⟨r, h1, h2.mono e⟩⟩
theorem NumsV.nil {C : Addr} {H : Hp} : NumsV C H [] [] := ⟨rfl, fun i x h => by simp at h⟩
theorem NumsV.cons {C : Addr} {H : Hp} {x : V} {r : Rat} {xs : List V} {rs : List Rat} (h : NumV C H x r) (t : NumsV C H xs rs) : NumsV C H (x :: xs) (r :: rs) := by
  refine ⟨by simp [t.1], fun i y hy => ?_⟩
  cases i with
  | zero => simp at hy; subst hy; exact ⟨r, rfl, h⟩
  | succ i => exact t.2 i y (by simpa using hy)
theorem NumsV.app {C : Addr} {H : Hp} : ∀ {xs ys : List V} {rs ss : List Rat}, NumsV C H xs rs → NumsV C H ys ss → NumsV C H (xs ++ ys) (rs ++ ss)
  | [], ys, rs, ss, h, g => by
    have : rs = [] := by have := h.1; cases rs with | nil => rfl | cons => simp at this
    subst this; exact g
  | x :: xs, ys, rs, ss, h, g => by
    cases rs with
    | nil => have := h.1; simp at this
    | cons r rs =>
      have h0 := h.2 0 x rfl
      obtain ⟨r', e, hr⟩ := h0
      have : r = r' := by simpa using e
      subst this
      exact NumsV.cons hr (NumsV.app ⟨by have := h.1; simpa using this, fun i y hy => h.2 (i + 1) y (by simpa using hy)⟩ g)
theorem NumsV.rev {C : Addr} {H : Hp} {xs : List V} {rs : List Rat} (h : NumsV C H xs rs) : NumsV C H xs.reverse rs.reverse := by
  induction xs generalizing rs with
  | nil =>
    have : rs = [] := by have := h.1; cases rs with | nil => rfl | cons => simp at this
    subst this; exact NumsV.nil
  | cons x xs ih =>
    cases rs with
    | nil => have := h.1; simp at this
    | cons r rs =>
      obtain ⟨r', e, hr⟩ := h.2 0 x rfl
      have : r = r' := by simpa using e
      subst this
      rw [List.reverse_cons, List.reverse_cons]
      exact NumsV.app (ih ⟨by have := h.1; simpa using this, fun i y hy => h.2 (i + 1) y (by simpa using hy)⟩) (NumsV.cons hr NumsV.nil)
theorem tMk {C : Addr} {p q : Int} {σ : L2.St} {H : Hp} {Q : VK} {E : XK} {dvs vs : List V} {t : TA} (ht : ∀ F : List V → Hp → Prop, F vs H → t σ H F) (hv : vs ++ dvs = [.int p, .int q])
    (q0 : q ≠ 0) (hq : q.natAbs < 2 ^ 9000) (k : RetR C (Rat.divInt p q) H Q) : tMake C (spInit C) dvs E t σ H Q := by
  refine ht _ ?_
  intro x dx hx hdx ne
  rw [hv]
  exact make_pure q0 hq k x dx hx hdx ne
theorem one_lt : (1 : Int).natAbs < 2 ^ 9000 := Nat.lt_of_lt_of_le (by decide : (1 : Int).natAbs < 2 ^ 1) (Nat.pow_le_pow_right (by decide) (by decide))
section
variable {P : Program} {w : World} {K : PySem.W.Frag} {mg : Str → Option Value} {base : Heap}
def spTotal (C : Addr) : Sp := fun vs H Q _ => ∃ p xs rs m, vs = [.ref C, .ref p] ∧ (H p = some (.lst xs) ∨ H p = some (.tup xs)) ∧ NumsV C H xs rs ∧ (∀ r ∈ rs, Sz m r) ∧
  4 + (m + 1) * (rs.length + 1) ≤ 8000 ∧ RetR C (sumL rs) H Q
/-- the def is_list as it stands -/
structure IsL (P : Program) (w : World) (K : PySem.W.Frag) (mg : Str → Option Value) (base : Heap) (f : Addr) (fd : FuncData) : Prop where
  F : FnOk P w K mg base CX0 1 f fd ["value"] spIsL
  m : mg "is_list" = some (.ref f)
  kp : PySem.W.keepIn K (.ref f) = true
  b : Binds K fd ["value"] []
theorem scTotal : FnScope ["cls", "numbers", "reckoned", "number"] ["cls", "numbers"] (defScope sTotal) := ⟨rfl, rfl, rfl, by decide +kernel, rfl, by decide +kernel, by decide +kernel⟩
theorem ok_total (R : RK P w K mg base) (B : BinK R .Add (· + ·)) {fl : Addr} {fdl : FuncData} (L : IsL P w K mg base fl fdl) {f : Addr} {fd : FuncData} (F : Fun K "total" "Ratio.total" sTotal f fd) :
    FnOk P w K mg base CX0 6 f fd ["cls", "numbers"] (spTotal R.C) := by
  refine F.ok scTotal (fun vs H Q E h => ?_) (fun cdv A outer s H vs Q E hr h => ?_)
  · obtain ⟨p, xs, rs, m, rfl, _⟩ := h
    rfl
  · obtain ⟨p, xs, rs, m, rfl, hp, hn, hs, hz, k⟩ := h
    have hr3 : Room 3 _ := hr.mono (by decide)
    have hr1 : Room 1 _ := hr.mono (by decide)
    -- one turn
    have turn : ∀ (D : Ends) (i : Nat) (x : V) (H1 : Hp) (a : Addr) (v : Option V), xs[i]? = some x → Ex H H1 → RtAt R.C H1 a (sumL (rs.take i)) →
        (∀ b H2, Ex H H2 → RtAt R.C H2 b (sumL (rs.take (i + 1))) → D.nx [some (.ref R.C), some (.ref p), some (.ref b), some x] H2) →
        tAsg (tOp (rBin R.C (· + ·)) (tVar 2) (tVar 3)) (gName 2) D ([some (.ref R.C), some (.ref p), some (.ref a), v].set 3 (some x)) H1 := by
      intro D i x H1 a v hx e1 ha kk
      obtain ⟨r, hr', hv⟩ := hn.2 i x hx
      have hi : i < rs.length := (List.getElem?_eq_some_iff.mp hr').1
      refine ⟨_, rfl, _, rfl, a, _, r, _, m, rfl, ha, hv.mono e1, Sz.sum i rs (by omega) hs, hs r (List.mem_of_getElem? hr'), ?_, fun b H2 e2 hb => ?_⟩
      · have : (m + 1) * i ≤ (m + 1) * rs.length := Nat.mul_le_mul_left _ (by omega)
        rw [Nat.mul_add] at hz
        omega
      · have hb' : RtAt R.C H2 b (sumL (rs.take i) + r) := hb
        rw [← take_snoc hr'] at hb'
        exact kk b H2 (e1.trans e2) hb'
    rcases hp with hp | hp
    · refine ⟨_, pss_cons (ps_if (pt_not (pt_val (pe_call L.F hr1 (by rfl) L.m L.kp L.b .nil pass0 (pa_cons (pv 1) pa_nil)))) (pss_one ps_never) pss_nil)
        (pss_cons (ps_set (i := 2) scTotal.nd rfl (Or.inl rfl) (pe_makeL (i := 0) R.mkr.M R.mkr.G hr3 rfl (.inl rfl) R.mkr.b1 R.mkr.d1 pass0 (pa_cons pe_int pa_nil)))
        (pss_cons (ps_for PassesOwn.never rfl (pi_list (pv 1)) (pg_name (i := 3) scTotal.nd rfl (Or.inl rfl)) (pss_one (ps_set (i := 2) scTotal.nd rfl (Or.inl rfl) (pe_op (B.op hr) (pv 2) (pv 3)))))
        (pss_one (ps_ret (pv 2))))), ?_⟩
      refine ⟨_, rfl, p, xs, rfl, .inl hp, fun H1 e1 => ⟨true, rfl, iteF ?_⟩⟩
      refine ⟨rfl, tMk (vs := [.int 0]) (p := 0) (q := 1) (fun _ h => h) rfl (by decide) one_lt (fun a H2 e2 ha => ?_)⟩
      refine ⟨_, rfl, p, rfl, ⟨_, SqL.of (e2 _ _ (e1 _ _ hp))⟩, for_list (K := K) (a := p) (xs := xs) (fun i σ H3 => ∃ b v, σ = [some (.ref R.C), some (.ref p), some (.ref b), v] ∧ Ex H H3 ∧ RtAt R.C H3 b (sumL (rs.take i)))
        ⟨a, none, rfl, e1.trans e2, ?_⟩ (fun i σ H3 _ ⟨b, v, _, e3, _⟩ => SqL.of (e3 _ _ hp)) ?_ ?_⟩
      · rw [of_int] at ha
        simpa [sumL] using ha
      · rintro i x σ H3 hx ⟨b, v, rfl, e3, hb⟩
        exact turn _ i x H3 b v hx e3 hb (fun c H4 e4 hc => ⟨c, some x, rfl, e4, hc⟩)
      · rintro σ H3 ⟨b, v, rfl, e3, hb⟩
        rw [hn.1, List.take_length] at hb
        exact ⟨_, rfl, k b H3 e3 hb⟩
    · refine ⟨_, pss_cons (ps_if (pt_not (pt_val (pe_call L.F hr1 (by rfl) L.m L.kp L.b .nil pass0 (pa_cons (pv 1) pa_nil)))) (pss_one ps_never) pss_nil)
        (pss_cons (ps_set (i := 2) scTotal.nd rfl (Or.inl rfl) (pe_makeL (i := 0) R.mkr.M R.mkr.G hr3 rfl (.inl rfl) R.mkr.b1 R.mkr.d1 pass0 (pa_cons pe_int pa_nil)))
        (pss_cons (ps_for PassesOwn.never rfl (pi_tup (pv 1)) (pg_name (i := 3) scTotal.nd rfl (Or.inl rfl)) (pss_one (ps_set (i := 2) scTotal.nd rfl (Or.inl rfl) (pe_op (B.op hr) (pv 2) (pv 3)))))
        (pss_one (ps_ret (pv 2))))), ?_⟩
      refine ⟨_, rfl, p, xs, rfl, .inr hp, fun H1 e1 => ⟨true, rfl, iteF ?_⟩⟩
      refine ⟨rfl, tMk (vs := [.int 0]) (p := 0) (q := 1) (fun _ h => h) rfl (by decide) one_lt (fun a H2 e2 ha => ?_)⟩
      refine ⟨_, rfl, p, rfl, ⟨_, SqT.of (e2 _ _ (e1 _ _ hp))⟩, for_tup (K := K) (a := p) (xs := xs) (fun i σ H3 => ∃ b v, σ = [some (.ref R.C), some (.ref p), some (.ref b), v] ∧ Ex H H3 ∧ RtAt R.C H3 b (sumL (rs.take i)))
        ⟨a, none, rfl, e1.trans e2, ?_⟩ (fun i σ H3 _ ⟨b, v, _, e3, _⟩ => SqT.of (e3 _ _ hp)) ?_ ?_⟩
      · rw [of_int] at ha
        simpa [sumL] using ha
      · rintro i x σ H3 hx ⟨b, v, rfl, e3, hb⟩
        exact turn _ i x H3 b v hx e3 hb (fun c H4 e4 hc => ⟨c, some x, rfl, e4, hc⟩)
      · rintro σ H3 ⟨b, v, rfl, e3, hb⟩
        rw [hn.1, List.take_length] at hb
        exact ⟨_, rfl, k b H3 e3 hb⟩
end
end K11
namespace K11
open PySem L2 GX KM
open Evl (Ex)
abbrev sPot : Stmt := top 12
abbrev sDraw : Stmt := top 13
abbrev sPick : Stmt := top 14
abbrev sLow : Stmt := top 15
abbrev sPair : Stmt := top 16
abbrev sPlus : Stmt := top 17
abbrev sTimes : Stmt := top 18
abbrev sIsMost : Stmt := top 20
abbrev sDrawn : Stmt := top 21
abbrev sShown : Stmt := top 22
/-- the pot stands at p -/
def PotAt (H : Hp) (p : Addr) : Prop := ∃ x y : Int, H p = some (.lst [.int x, .int y]) ∧ 0 ≤ x ∧ 0 ≤ y ∧ y < 2 ^ 31
/-- all but the pot is as it was -/
structure ExP (p : Addr) (H H' : Hp) : Prop where
  old : ∀ a o, a ≠ p → H a = some o → H' a = some o
  pot : PotAt H' p
theorem ExP.trans {p : Addr} {H H1 H2 : Hp} (a : ExP p H H1) (b : ExP p H1 H2) : ExP p H H2 := ⟨fun c o n h => b.old c o n (a.old c o n h), b.pot⟩
theorem PotAt.mono {H H' : Hp} {p : Addr} (h : PotAt H p) (e : Ex H H') : PotAt H' p := let ⟨x, y, h1, h2⟩ := h; ⟨x, y, e _ _ h1, h2⟩
theorem ExP.of {p : Addr} {H H' : Hp} (h : PotAt H p) (e : Ex H H') : ExP p H H' := ⟨fun a o _ q => e a o q, h.mono e⟩
/-- a tuple of top and bottom -/
def PrAt (H : Hp) (t : Addr) (r : Rat) : Prop := H t = some (.tup [.int r.num, .int (r.den : Int)])
theorem PrAt.mono {H H' : Hp} {t : Addr} {r : Rat} (h : PrAt H t r) (e : Ex H H') : PrAt H' t r := e _ _ h
def RetP (r : Rat) (H : Hp) (Q : VK) : Prop := ∀ t H', Ex H H' → PrAt H' t r → Q (.ref t) H'
/-- built-in names that the law's defs use -/
structure Bn (mg : Str → Option Value) : Prop where
  abs : mg "abs" = none
  max : mg "max" = none
  min : mg "min" = none
  len : mg "len" = none
  int : mg "int" = none
  str : mg "str" = none
  repr : mg "repr" = none
  divmod : mg "divmod" = none
  all : mg "all" = none
  range : mg "range" = none
  tuple : mg "tuple" = none
  isi : mg "isinstance" = none
section
variable {P : Program} {w : World} {K : PySem.W.Frag} {mg : Str → Option Value} {base : Heap}
def spDraw : Sp := fun vs H Q _ => ∃ (p : Addr) (n : Int), vs = [.ref p, .int n] ∧ PotAt H p ∧ 0 < n ∧ n < 2 ^ 60 ∧ ∀ d H', 0 ≤ d → d < n → ExP p H H' → Q (.int d) H'
theorem scDraw : FnScope ["_law_pot_here", "_law_size", "_law_digit"] ["_law_pot_here", "_law_size"] (defScope sDraw) := ⟨rfl, rfl, rfl, by decide +kernel, rfl, by decide +kernel, by decide +kernel⟩
theorem ok_draw (N : Bn mg) {f : Addr} {fd : FuncData} (F : Fun K "_law_draw" "_law_draw" sDraw f fd) : FnOk P w K mg base CX0 1 f fd ["_law_pot_here", "_law_size"] spDraw := by
  refine F.ok scDraw (fun vs H Q E h => ?_) (fun cdv A outer s H vs Q E hr h => ?_)
  · obtain ⟨p, n, rfl, _⟩ := h
    rfl
  · obtain ⟨p, n, rfl, ⟨x, y, hp, x0, y0, y1⟩, n0, n1, k⟩ := h
    refine ⟨_, pss_cons (ps_if (pt_cmpR op_gt (pe_ix ix_list (pv 0) pe_int (fun _ _ => rfl)) pe_int (nomark _))
        (pss_cons (ps_asg (pe_callB call_divmodW (by rfl) N.divmod (by decide +kernel) (pa_cons (pe_ix ix_list (pv 0) pe_int (fun _ _ => rfl)) (pa_cons (pv 1) pa_nil)))
          (pg_tup (by rfl) (pgs_cons (pg_sub (pv 0) pe_int set_list) (pgs_cons (pg_name (i := 2) scDraw.nd rfl (.inl rfl)) pgs_nil))))
        (pss_one (ps_ret (pv 2)))) pss_nil)
      (pss_cons (ps_asg (pe_op op_mod (pe_callTy call_int1 (by rfl) N.int (by decide +kernel) (pa_cons (pe_op op_add (pe_op op_mul (pe_ix ix_list (pv 0) pe_int (fun _ _ => rfl)) pe_int) pe_int) pa_nil)) pe_int) (pg_sub (pv 0) pe_int set_list))
      (pss_one (ps_ret (pe_op op_mod (pe_callTy call_int1 (by rfl) N.int (by decide +kernel) (pa_cons (pe_op op_fdiv (pe_op op_mod (pe_callTy call_int1 (by rfl) N.int (by decide +kernel) (pa_cons (pe_op op_mul (pe_ix ix_list (pv 0) pe_int (fun _ _ => rfl)) (pe_ix ix_list (pv 0) pe_int (fun _ _ => rfl))) pa_nil)) pe_int) pe_int) pa_nil)) (pv 1))))), ?_⟩
    refine ⟨_, rfl, p, _, _, _, rfl, rfl, SqL.of hp, atI_nat (j := 0) rfl, _, _, rfl, rfl, _, rfl, ite2 (fun z => ?_) (fun z => ?_)⟩
    · refine ⟨_, rfl, p, _, _, _, rfl, rfl, SqL.of hp, atI_nat (j := 0) rfl, _, rfl, _, _, rfl, ⟨n0, PyProof.noPylong_of_log2 (log_of (n := 60) (by omega) (by decide) (by decide))⟩, fun t ht => ?_⟩
      have npt : p ≠ t := ne_of_none hp ht
      refine ⟨t, _, rfl, SqT.of upd_same, rfl, _, _, rfl, _, rfl, p, _, _, 0, rfl, rfl, (by rw [upd_ne npt]; exact hp), rfl, ?_⟩
      refine ⟨_, _, rfl, ⟨rfl, ?_⟩⟩
      refine ⟨_, rfl, k _ _ (Int.emod_nonneg _ (by omega)) (Int.emod_lt_of_pos _ n0) ⟨fun a o na ha => ?_, ?_⟩⟩
      · rw [upd_ne na, upd_ne (ne_of_none ha ht)]
        exact ha
      · exact ⟨x / n, y, upd_same, Int.ediv_nonneg x0 (by omega), y0, y1⟩
    · refine ⟨_, rfl, p, _, _, _, rfl, rfl, SqL.of hp, atI_nat (j := 1) rfl, _, _, rfl, rfl, .inr ⟨by decide, by decide⟩, _, _, rfl, rfl, .inl ⟨_, rfl, _, _, rfl, rfl, (by show (0 : Int) < 2147483563; decide), ?_⟩⟩
      refine ⟨_, rfl, p, _, _, 1, rfl, rfl, hp, rfl, ?_⟩
      have hb : 0 ≤ (y * 39379 + 30007) % 2147483563 ∧ (y * 39379 + 30007) % 2147483563 < 2147483563 := ⟨Int.emod_nonneg _ (by decide), Int.emod_lt_of_pos _ (by decide)⟩
      generalize hy' : (y * 39379 + 30007) % 2147483563 = y' at hb
      have hp' : upd H p (.lst ([V.int x, V.int y].set 1 (.int ((y * 39379 + 30007) % 2147483563)))) p = some (.lst [.int x, .int y']) := by rw [upd_same, hy']; rfl
      refine ⟨_, rfl, p, _, _, _, rfl, rfl, SqL.of hp', atI_nat (j := 1) rfl, _, rfl, p, _, _, _, rfl, rfl, SqL.of hp', atI_nat (j := 1) rfl, _, _, rfl, rfl, .inl ⟨by omega, by omega⟩, .inl ⟨_, rfl, _, _, rfl, rfl, (by show (0 : Int) < 2147483549; decide), _, _, rfl, rfl, ⟨by decide, by decide⟩, .inl ⟨_, rfl, _, rfl, _, _, rfl, rfl, n0, ?_⟩⟩⟩
      refine k _ _ (Int.emod_nonneg _ (by omega)) (Int.emod_lt_of_pos _ n0) ⟨fun a o na ha => ?_, ⟨x, y', hp', x0, hb.1, by omega⟩⟩
      rw [upd_ne na]
      exact ha
end
end K11
namespace K11
open PySem L2 GX KM
open Evl (Ex)
section
variable {P : Program} {w : World} {K : PySem.W.Frag} {mg : Str → Option Value} {base : Heap}
/-- a def of the law as it stands, with its promise -/
structure Df (P : Program) (w : World) (K : PySem.W.Frag) (mg : Str → Option Value) (base : Heap) (n : Nat) (x : Str) (ps : List Str) (sp : Sp) where
  f : Addr
  fd : FuncData
  F : FnOk P w K mg base CX0 n f fd ps sp
  m : mg x = some (.ref f)
  kp : PySem.W.keepIn K (.ref f) = true
  b : Binds K fd ps []
theorem pe_df {X : Cx} {n j : Nat} {x : Str} {ps : List Str} {sp : Sp} {p pos : Pos} {e : Expr} {es : List Expr} {t : TA} (D : Df X.prog X.w X.K X.mg X.base n x ps sp) (hr : Room j X.A) (ha : PA X (e :: es) t) (hj : n ≤ j := by decide) (hg : Gl X x := by rfl)
    (hdb : (x == ("__debug__" : Str)) = false := by decide) (he : starEach (e :: es) X.env = (false, eval e X.env) :: starEach es X.env := by rfl)
    (hpl : (backTo pos (starEach es X.env)).any (·.1) = false := by rfl) : PE X (.Call (.Name x p) (e :: es) [] pos) (tCall sp [] E0 t) :=
  pe_call D.F (hr.mono hj) hg D.m D.kp D.b .nil pass0 ha hdb he hpl
def spPick : Sp := fun vs H Q _ => ∃ (p l : Addr) (xs : List V), vs = [.ref p, .ref l] ∧ PotAt H p ∧ H l = some (.lst xs) ∧ l ≠ p ∧ 0 < xs.length ∧ xs.length ≤ 100 ∧ ∀ (i : Nat) x H', xs[i]? = some x → ExP p H H' → Q x H'
theorem scPick : FnScope ["_law_pot_here", "_law_some"] ["_law_pot_here", "_law_some"] (defScope sPick) := ⟨rfl, rfl, rfl, by decide +kernel, rfl, by decide +kernel, by decide +kernel⟩
theorem ok_pick (N : Bn mg) (D : Df P w K mg base 1 "_law_draw" ["_law_pot_here", "_law_size"] spDraw) {f : Addr} {fd : FuncData} (F : Fun K "_law_pick" "_law_pick" sPick f fd) : FnOk P w K mg base CX0 2 f fd ["_law_pot_here", "_law_some"] spPick := by
  refine F.ok scPick (fun vs H Q E h => ?_) (fun cdv A outer s H vs Q E hr h => ?_)
  · obtain ⟨p, l, xs, rfl, _⟩ := h
    rfl
  · obtain ⟨p, l, xs, rfl, hp, hl, nlp, h0, h1, k⟩ := h
    refine ⟨_, pss_one (ps_ret (pe_ix ix_list (pv 1) (pe_df D hr (pa_cons (pv 0) (pa_cons (pe_callB call_len_seq (by rfl) N.len PySem.boot_len (pa_cons (pv 1) pa_nil)) pa_nil))) (fun _ _ => rfl))), ?_⟩
    refine ⟨_, rfl, _, rfl, _, rfl, l, xs, rfl, .inl (SqL.of hl), p, _, rfl, hp, by omega, by omega, fun d H' d0 d1 e => ?_⟩
    have hd : d.toNat < xs.length := by omega
    exact ⟨l, xs, d, xs[d.toNat], rfl, rfl, SqL.of (e.old _ _ nlp hl), at_of (j := d.toNat) (by omega) (List.getElem?_eq_getElem hd), k d.toNat _ H' (List.getElem?_eq_getElem hd) e⟩
/-! ### low: Euclid -/
theorem gcd_step {a b : Nat} (h : 0 < b) : Nat.gcd b (a % b) = Nat.gcd a b := by
  rw [Nat.gcd_comm b, ← Nat.gcd_rec, Nat.gcd_comm]
def spLow : Sp := fun vs H Q _ => ∃ (p q : Int) (n : Nat), vs = [.int p, .int q] ∧ q ≠ 0 ∧ p.natAbs < 2 ^ n ∧ q.natAbs < 2 ^ n ∧ n ≤ 9000 ∧ RetP (Rat.divInt p q) H Q
theorem scLow : FnScope ["_law_above", "_law_below", "_law_one", "_law_other"] ["_law_above", "_law_below"] (defScope sLow) := ⟨rfl, rfl, rfl, by decide +kernel, rfl, by decide +kernel, by decide +kernel⟩
theorem abs_if (i : Int) : (if i < 0 then -i else i) = (i.natAbs : Int) := by split <;> omega
theorem ok_low (N : Bn mg) {f : Addr} {fd : FuncData} (F : Fun K "_law_low" "_law_low" sLow f fd) : FnOk P w K mg base CX0 1 f fd ["_law_above", "_law_below"] spLow := by
  refine F.ok scLow (fun vs H Q E h => ?_) (fun cdv A outer s H vs Q E hr h => ?_)
  · obtain ⟨p, q, n, rfl, _⟩ := h
    rfl
  · obtain ⟨p, q, n, rfl, q0, hp, hq, hn, k⟩ := h
    refine ⟨_, pss_cons (ps_par (i := 2) (j := 3) (by rfl) scLow.nd rfl rfl (by decide) rfl rfl (pa_cons (pe_callB call_abs (by rfl) N.abs (by decide +kernel) (pa_cons (pv 0) pa_nil)) (pa_cons (pe_callB call_abs (by rfl) N.abs (by decide +kernel) (pa_cons (pv 1) pa_nil)) pa_nil)) (by rfl))
      (pss_cons (ps_while PassesOwn.never (pt_cmpR op_gt (pv 3) pe_int (nomark _))
        (pss_one (ps_par (i := 2) (j := 3) (by rfl) scLow.nd rfl rfl (by decide) rfl rfl (pa_cons (pv 3) (pa_cons (pe_op op_mod (pe_callTy call_int1 (by rfl) N.int (by decide +kernel) (pa_cons (pv 2) pa_nil)) (pv 3)) pa_nil)) (by rfl))))
      (pss_one (ps_ret (pe_ifExp (pt_cmpR op_gt (pv 1) pe_int (nomark _)) (pe_tup (pa_cons (pe_op op_fdivNW (pv 0) (pv 2)) (pa_cons (pe_op op_fdivNW (pv 1) (pv 2)) pa_nil)))
        (pe_tup (pa_cons (pe_op op_fdivNW (pe_un un_neg (pv 0)) (pv 2)) (pa_cons (pe_op op_fdivNW (pe_un un_neg (pv 1)) (pv 2)) pa_nil))))))), ?_⟩
    refine ⟨_, rfl, _, rfl, _, rfl, _, rfl, _, _, rfl, ?_⟩
    -- the loop: gcd of both is kept, the second one falls
    refine Evl.q_while (fun m σ H' => Ex H H' ∧ ∃ a : Nat, σ = [some (.int p), some (.int q), some (.int (a : Int)), some (.int (m : Int))] ∧ Nat.gcd a m = Nat.gcd p.natAbs q.natAbs) q.natAbs ⟨Evl.Ex.refl H, p.natAbs, ?_, rfl⟩ ?_
    · rw [abs_if, abs_if]
      rfl
    · rintro m σ H' ⟨e0, a, rfl, hg⟩
      refine ⟨decide ((0 : Int) < (m : Int)), fun H1 e1 Q' q' => ⟨_, rfl, _, _, rfl, rfl, _, rfl, q' H1 (Evl.Ex.refl H1)⟩, fun hb H1 e1 => ?_, fun hb H1 e1 => ?_⟩
      · have m0 : 0 < m := by have := of_decide_eq_true hb; omega
        refine ⟨fun σ2 H2 => Ex H H2 ∧ σ2 = [some (.int p), some (.int q), some (.int (m : Int)), some (.int ((a % m : Nat) : Int))], fun σ2 H2 h2 => ⟨a % m, Nat.mod_lt _ m0, h2.1, m, h2.2, ?_⟩, ?_⟩
        · rw [gcd_step m0, hg]
        · refine ⟨_, rfl, _, rfl, .inl ⟨_, rfl, _, rfl, _, _, rfl, rfl, by omega, _, _, rfl, e0.trans e1, ?_⟩⟩
          simp
      · have m0 : m = 0 := by have := of_decide_eq_false hb; omega
        subst m0
        rw [Nat.gcd_zero_right] at hg
        subst hg
        have e2 : ((Nat.gcd p.natAbs q.natAbs : Nat) : Int) = gz p q := rfl
        rw [e2]
        have g0 := gz_pos (p := p) q0
        have g1 : (gz p q).natAbs.log2 < 9000 := by
          have := gz_le (p := p) q0
          by_cases hn0 : n = 0
          · subst hn0
            have hq' : q.natAbs < 1 := hq
            omega
          · exact log_of (Nat.lt_of_le_of_lt this hq) (by omega) hn
        refine ⟨_, rfl, _, _, rfl, rfl, _, rfl, ite2 (fun z => ?_) (fun z => ?_)⟩
        · have z' : 0 < q := of_decide_eq_true z
          refine ⟨_, rfl, _, rfl, _, _, rfl, rfl, ⟨by omega, g1⟩, _, rfl, _, rfl, _, _, rfl, rfl, ⟨by omega, g1⟩, (by show 2 ≤ sizeLine; decide), fun t ht => ?_⟩
          refine k t _ ((e0.trans e1).trans (Evl.Ex.new ht)) ?_
          unfold PrAt
          rw [upd_same, num_pos z', den_pos z', ← fdiv_of_dvd (gz_dvd_l p q), ← fdiv_of_dvd (gz_dvd_r p q)]
        · have z' : q < 0 := by
            have : ¬ 0 < q := fun h => z (decide_eq_true h)
            omega
          refine ⟨_, rfl, _, rfl, _, rfl, _, _, rfl, rfl, ⟨by omega, g1⟩, _, rfl, _, rfl, _, rfl, _, _, rfl, rfl, ⟨by omega, g1⟩, (by show 2 ≤ sizeLine; decide), fun t ht => ?_⟩
          refine k t _ ((e0.trans e1).trans (Evl.Ex.new ht)) ?_
          unfold PrAt
          rw [upd_same, num_neg z', den_neg z', ← fdiv_of_dvd (Int.dvd_neg.mpr (gz_dvd_l p q)), ← fdiv_of_dvd (Int.dvd_neg.mpr (gz_dvd_r p q))]
end
end K11
namespace K11
open PySem L2 GX KM
open Evl (Ex)
section
variable {P : Program} {w : World} {K : PySem.W.Frag} {mg : Str → Option Value} {base : Heap}
def spPair (C : Addr) : Sp := fun vs H Q _ => ∃ v r, vs = [v] ∧ NumV C H v r ∧ RetP r H Q
theorem scPair : FnScope ["_law_number"] ["_law_number"] (defScope sPair) := ⟨rfl, rfl, rfl, by decide +kernel, rfl, by decide +kernel, by decide +kernel⟩
theorem ok_pair (R : RK P w K mg base) {f : Addr} {fd : FuncData} (F : Fun K "_law_pair" "_law_pair" sPair f fd) : FnOk P w K mg base CX0 3 f fd ["_law_number"] (spPair R.C) := by
  refine F.ok scPair (fun vs H Q E h => ?_) (fun cdv A outer s H vs Q E hr h => ?_)
  · obtain ⟨v, r, rfl, _⟩ := h
    rfl
  · obtain ⟨v, r, rfl, hv, k⟩ := h
    refine ⟨_, pss_one (ps_ret (pe_ifExp (pt_val (pe_callB call_isi (by rfl) R.T.isi (by decide +kernel) (pa_cons (pv 0) (pa_cons (pe_bltn (v := .ty "int") (by rfl) R.T.int (by decide +kernel) rfl) pa_nil))))
      (pe_tup (pa_cons (pv 0) (pa_cons pe_int pa_nil))) (pe_tup (pa_cons (pe_top R hr (pv 0)) (pa_cons (pe_bot R hr (pv 0)) pa_nil))))), ?_⟩
    rcases hv with ⟨i, rfl, rfl⟩ | ⟨a, rfl, ha⟩
    · refine ⟨_, rfl, _, _, _, _, true, rfl, .ty _, .base (.int i), kit_ty (by decide +kernel), true, rfl, iteT ?_⟩
      exact ⟨_, rfl, (by show 2 ≤ sizeLine; decide), fun t ht => k t _ (Evl.Ex.new ht) upd_same⟩
    · refine ⟨_, rfl, _, _, _, _, false, rfl, .ty _, tyR R.T ha, R.T.kCi, false, rfl, iteF ?_⟩
      obtain ⟨da, ha'⟩ := id ha
      exact ⟨_, rfl, a, da, _, rfl, ha', a, r, rfl, ha, _, rfl, a, da, _, rfl, ha', a, r, rfl, ha, (by show 2 ≤ sizeLine; decide), fun t ht => k t _ (Evl.Ex.new ht) upd_same⟩
def spPB (g : Rat → Rat → Rat) : Sp := fun vs H Q _ => ∃ t u r s n m, vs = [.ref t, .ref u] ∧ PrAt H t r ∧ PrAt H u s ∧ Sz n r ∧ Sz m s ∧ n + m + 1 ≤ 9000 ∧ RetP (g r s) H Q
theorem scPlus : FnScope ["_law_one", "_law_other"] ["_law_one", "_law_other"] (defScope sPlus) := ⟨rfl, rfl, rfl, by decide +kernel, rfl, by decide +kernel, by decide +kernel⟩
theorem scTimes : FnScope ["_law_one", "_law_other"] ["_law_one", "_law_other"] (defScope sTimes) := ⟨rfl, rfl, rfl, by decide +kernel, rfl, by decide +kernel, by decide +kernel⟩
theorem scIsMost : FnScope ["_law_one", "_law_other"] ["_law_one", "_law_other"] (defScope sIsMost) := ⟨rfl, rfl, rfl, by decide +kernel, rfl, by decide +kernel, by decide +kernel⟩
abbrev DLow (P : Program) (w : World) (K : PySem.W.Frag) (mg : Str → Option Value) (base : Heap) := Df P w K mg base 1 "_law_low" ["_law_above", "_law_below"] spLow
theorem ok_plus (L : DLow P w K mg base) {f : Addr} {fd : FuncData} (F : Fun K "_law_plus" "_law_plus" sPlus f fd) : FnOk P w K mg base CX0 2 f fd ["_law_one", "_law_other"] (spPB (· + ·)) := by
  refine F.ok scPlus (fun vs H Q E h => ?_) (fun cdv A outer s H vs Q E hr h => ?_)
  · obtain ⟨t, u, r, s', n, m, rfl, _⟩ := h
    rfl
  · obtain ⟨t, u, r, s', n, m, rfl, ht, hu, zn, zm, hz, k⟩ := h
    have p1 := zn.pos
    have p2 := zm.pos
    refine ⟨_, pss_one (ps_ret (pe_df L hr (pa_cons (pe_op op_add (pe_op op_mulW (pe_ix ix_tup (pv 0) pe_int (fun _ _ => rfl)) (pe_ix ix_tup (pv 1) pe_int (fun _ _ => rfl))) (pe_op op_mulW (pe_ix ix_tup (pv 1) pe_int (fun _ _ => rfl)) (pe_ix ix_tup (pv 0) pe_int (fun _ _ => rfl))))
      (pa_cons (pe_op op_mulW (pe_ix ix_tup (pv 0) pe_int (fun _ _ => rfl)) (pe_ix ix_tup (pv 1) pe_int (fun _ _ => rfl))) pa_nil)))), ?_⟩
    refine ⟨_, rfl, t, _, _, _, rfl, rfl, SqT.of ht, atI_nat (j := 0) rfl, _, rfl, u, _, _, _, rfl, rfl, SqT.of hu, atI_nat (j := 1) rfl, _, _, rfl, rfl, wide_mul zn.num zm.den p1 p2 (by omega), ?_⟩
    refine ⟨_, rfl, u, _, _, _, rfl, rfl, SqT.of hu, atI_nat (j := 0) rfl, _, rfl, t, _, _, _, rfl, rfl, SqT.of ht, atI_nat (j := 1) rfl, _, _, rfl, rfl, wide_mul zm.num zn.den p2 p1 (by omega), _, _, rfl, rfl, ?_⟩
    refine ⟨_, rfl, t, _, _, _, rfl, rfl, SqT.of ht, atI_nat (j := 1) rfl, _, rfl, u, _, _, _, rfl, rfl, SqT.of hu, atI_nat (j := 1) rfl, _, _, rfl, rfl, wide_mul zn.den zm.den p1 p2 (by omega), ?_⟩
    refine ⟨_, _, n + m + 1, rfl, Int.mul_ne_zero (dz r) (dz s'), add_lt (mul_lt zn.num zm.den) (by rw [Nat.add_comm n m]; exact mul_lt zm.num zn.den), lt_more (mul_lt zn.den zm.den) (by omega), hz, ?_⟩
    rw [add_eq]
    exact k
theorem ok_times (L : DLow P w K mg base) {f : Addr} {fd : FuncData} (F : Fun K "_law_times" "_law_times" sTimes f fd) : FnOk P w K mg base CX0 2 f fd ["_law_one", "_law_other"] (spPB (· * ·)) := by
  refine F.ok scTimes (fun vs H Q E h => ?_) (fun cdv A outer s H vs Q E hr h => ?_)
  · obtain ⟨t, u, r, s', n, m, rfl, _⟩ := h
    rfl
  · obtain ⟨t, u, r, s', n, m, rfl, ht, hu, zn, zm, hz, k⟩ := h
    have p1 := zn.pos
    have p2 := zm.pos
    refine ⟨_, pss_one (ps_ret (pe_df L hr (pa_cons (pe_op op_mulW (pe_ix ix_tup (pv 0) pe_int (fun _ _ => rfl)) (pe_ix ix_tup (pv 1) pe_int (fun _ _ => rfl)))
      (pa_cons (pe_op op_mulW (pe_ix ix_tup (pv 0) pe_int (fun _ _ => rfl)) (pe_ix ix_tup (pv 1) pe_int (fun _ _ => rfl))) pa_nil)))), ?_⟩
    refine ⟨_, rfl, t, _, _, _, rfl, rfl, SqT.of ht, atI_nat (j := 0) rfl, _, rfl, u, _, _, _, rfl, rfl, SqT.of hu, atI_nat (j := 0) rfl, _, _, rfl, rfl, wide_mul zn.num zm.num p1 p2 (by omega), ?_⟩
    refine ⟨_, rfl, t, _, _, _, rfl, rfl, SqT.of ht, atI_nat (j := 1) rfl, _, rfl, u, _, _, _, rfl, rfl, SqT.of hu, atI_nat (j := 1) rfl, _, _, rfl, rfl, wide_mul zn.den zm.den p1 p2 (by omega), ?_⟩
    refine ⟨_, _, n + m, rfl, Int.mul_ne_zero (dz r) (dz s'), mul_lt zn.num zm.num, mul_lt zn.den zm.den, by omega, ?_⟩
    rw [mul_eq]
    exact k
def spMostP : Sp := fun vs H Q _ => ∃ t u r s n m, vs = [.ref t, .ref u] ∧ PrAt H t r ∧ PrAt H u s ∧ Sz n r ∧ Sz m s ∧ n + m + 1 ≤ 9000 ∧ Q (.bl (decide (r ≤ s))) H
theorem ok_isMost {f : Addr} {fd : FuncData} (F : Fun K "_law_is_most" "_law_is_most" sIsMost f fd) : FnOk P w K mg base CX0 1 f fd ["_law_one", "_law_other"] spMostP := by
  refine F.ok scIsMost (fun vs H Q E h => ?_) (fun cdv A outer s H vs Q E hr h => ?_)
  · obtain ⟨t, u, r, s', n, m, rfl, _⟩ := h
    rfl
  · obtain ⟨t, u, r, s', n, m, rfl, ht, hu, zn, zm, hz, k⟩ := h
    have p1 := zn.pos
    have p2 := zm.pos
    refine ⟨_, pss_one (ps_ret (pe_cmpR op_le (pe_op op_mulW (pe_ix ix_tup (pv 0) pe_int (fun _ _ => rfl)) (pe_ix ix_tup (pv 1) pe_int (fun _ _ => rfl))) (pe_op op_mulW (pe_ix ix_tup (pv 1) pe_int (fun _ _ => rfl)) (pe_ix ix_tup (pv 0) pe_int (fun _ _ => rfl))) (nomark _))), ?_⟩
    refine ⟨_, rfl, t, _, _, _, rfl, rfl, SqT.of ht, atI_nat (j := 0) rfl, _, rfl, u, _, _, _, rfl, rfl, SqT.of hu, atI_nat (j := 1) rfl, _, _, rfl, rfl, wide_mul zn.num zm.den p1 p2 (by omega), ?_⟩
    refine ⟨_, rfl, u, _, _, _, rfl, rfl, SqT.of hu, atI_nat (j := 0) rfl, _, rfl, t, _, _, _, rfl, rfl, SqT.of ht, atI_nat (j := 1) rfl, _, _, rfl, rfl, wide_mul zm.num zn.den p2 p1 (by omega), _, _, rfl, rfl, ?_⟩
    rw [decide_eq_decide.mpr (le_iff r s')] at k
    exact k
def spShown : Sp := fun vs H Q _ => ∃ t r n, vs = [.ref t] ∧ PrAt H t r ∧ Sz n r ∧ n ≤ 1900 ∧ Q (.str (stT r)) H
theorem scShown : FnScope ["_law_pair_here"] ["_law_pair_here"] (defScope sShown) := ⟨rfl, rfl, rfl, by decide +kernel, rfl, by decide +kernel, by decide +kernel⟩
theorem ok_shown (N : Bn mg) {f : Addr} {fd : FuncData} (F : Fun K "_law_shown" "_law_shown" sShown f fd) : FnOk P w K mg base CX0 1 f fd ["_law_pair_here"] spShown := by
  refine F.ok scShown (fun vs H Q E h => ?_) (fun cdv A outer s H vs Q E hr h => ?_)
  · obtain ⟨t, r, n, rfl, _⟩ := h
    rfl
  · obtain ⟨t, r, n, rfl, ht, zn, hz, k⟩ := h
    have l1 := log1920 zn.num zn.pos hz
    have l2 := log1920 zn.den zn.pos hz
    have m1 := len_i l1
    have m2 := len_i l2
    have c1 : (Str.ofString "/").length ≤ 1 := by decide +kernel
    have g1 := ap_le (c := 1922) m1 c1 (by omega)
    refine ⟨_, pss_one (ps_ret (pe_ifExp (pt_cmpR op_eq (pe_ix ix_tup (pv 0) pe_int (fun _ _ => rfl)) pe_int (nomark _)) (pe_callTy call_str_int (by rfl) N.str (by decide +kernel) (pa_cons (pe_ix ix_tup (pv 0) pe_int (fun _ _ => rfl)) pa_nil))
      (pe_op op_add_str (pe_op op_add_str (pe_callTy call_str_int (by rfl) N.str (by decide +kernel) (pa_cons (pe_ix ix_tup (pv 0) pe_int (fun _ _ => rfl)) pa_nil)) pe_str) (pe_callTy call_str_int (by rfl) N.str (by decide +kernel) (pa_cons (pe_ix ix_tup (pv 0) pe_int (fun _ _ => rfl)) pa_nil))))), ?_⟩
    refine ⟨_, rfl, t, _, _, _, rfl, rfl, SqT.of ht, atI_nat (j := 1) rfl, rfl, _, rfl, ?_⟩
    rw [dec_i]
    unfold stT at k
    refine ite2 (fun z => ?_) (fun z => ?_)
    · rw [if_pos (of_decide_eq_true z)] at k
      exact ⟨_, rfl, t, _, _, _, rfl, rfl, SqT.of ht, atI_nat (j := 0) rfl, _, rfl, l1, k⟩
    · rw [if_neg (fun h => z (decide_eq_true h))] at k
      refine ⟨_, rfl, t, _, _, _, rfl, rfl, SqT.of ht, atI_nat (j := 0) rfl, _, rfl, l1, _, _, rfl, rfl, line_of (by have := m1; have := c1; unfold iT at *; omega), ?_⟩
      refine ⟨_, rfl, t, _, _, _, rfl, rfl, SqT.of ht, atI_nat (j := 1) rfl, _, rfl, l2, _, _, rfl, rfl, line_of (by have := g1; have := m2; unfold iT at *; omega), k⟩
end
end K11
namespace K11
open PySem L2 GX KM
open Evl (Ex)
section
variable {P : Program} {w : World} {K : PySem.W.Frag} {mg : Str → Option Value} {base : Heap}
def spPot (K : PySem.W.Frag) : Sp := fun vs H Q _ => ∃ (a : Addr) (ns : List Int) (k : Int), vs = [.ref a, .int k] ∧ SqL K H a (ns.map V.int) ∧ 0 ≤ k ∧ k ≤ 10 ∧ ∀ p H', H p = none → Ex H H' → PotAt H' p → Q (.ref p) H'
theorem scPot : FnScope ["_law_script", "_law_k", "_law_cell"] ["_law_script", "_law_k"] (defScope sPot) := ⟨rfl, rfl, rfl, by decide +kernel, rfl, by decide +kernel, by decide +kernel⟩
theorem ok_pot (N : Bn mg) {f : Addr} {fd : FuncData} (F : Fun K "_law_pot" "_law_pot" sPot f fd) : FnOk P w K mg base CX0 1 f fd ["_law_script", "_law_k"] (spPot K) := by
  refine F.ok scPot (fun vs H Q E h => ?_) (fun cdv A outer s H vs Q E hr h => ?_)
  · obtain ⟨a, ns, k, rfl, _⟩ := h
    rfl
  · obtain ⟨a, ns, k, rfl, hs, k0, k1, kk⟩ := h
    refine ⟨_, pss_cons (ps_set (i := 2) scPot.nd rfl (Or.inl rfl) (pe_ifExp (pt_cmpR op_lt (pv 1) (pe_callB call_len_seq (by rfl) N.len PySem.boot_len (pa_cons (pv 0) pa_nil)) (nomark _))
        (pe_callB call_abs (by rfl) N.abs (by decide +kernel) (pa_cons (pe_ix ix_list (pv 0) (pv 1) (fun _ _ => rfl)) pa_nil)) (pe_op op_add (pe_op op_mul pe_int (pv 1)) pe_int)))
      (pss_one (ps_ret (pe_lst (pa_cons (pe_callB (call_max2 rfl) (by rfl) N.max (by decide +kernel) (pa_cons pe_int (pa_cons (pe_op op_sub (pv 2) (pe_op op_pow pe_int pe_int)) pa_nil)))
        (pa_cons (pe_op op_add (pe_op op_mod (pe_callTy call_int1 (by rfl) N.int (by decide +kernel) (pa_cons (pe_op op_add (pe_op op_add (pe_op op_mul (pe_op op_mod (pe_callTy call_int1 (by rfl) N.int (by decide +kernel) (pa_cons (pv 2) pa_nil)) pe_int) pe_int) (pe_op op_mul pe_int (pv 1))) pe_int) pa_nil)) pe_int) pe_int) pa_nil))))), ?_⟩
    have fin : ∀ c : Int, 0 ≤ c → (tRet (tLst (tCons (tCB (fun xs H Q => ∃ i j, xs = [.int i, .int j] ∧ Q (.int (if j > i then j else i)) H) (tCons (tC (.int 0)) (tCons (tOp (rI0 fun i j => .int (i - j)) (tVar 2) (tOp (rI CPow fun i j => .int (i ^ j.toNat)) (tC (.int 10)) (tC (.int 18)))) tNil)))
        (tCons (tOp (rI0 fun i j => .int (i + j)) (tOp (rI (fun _ j => 0 < j) fun i j => .int (i % j)) (tCB (fun xs H Q => (∃ i, xs = [.int i] ∧ Q (.int i) H) ∨ ∃ k, xs = [.bl k] ∧ Q (.int (if k then 1 else 0)) H) (tCons (tOp (rI0 fun i j => .int (i + j)) (tOp (rI0 fun i j => .int (i + j)) (tOp (rI CMul fun i j => .int (i * j)) (tOp (rI (fun _ j => 0 < j) fun i j => .int (i % j)) (tCB (fun xs H Q => (∃ i, xs = [.int i] ∧ Q (.int i) H) ∨ ∃ k, xs = [.bl k] ∧ Q (.int (if k then 1 else 0)) H) (tCons (tVar 2) tNil)) (tC (.int 2147483549))) (tC (.int 40013))) (tOp (rI CMul fun i j => .int (i * j)) (tC (.int 6007)) (tVar 1))) (tC (.int 31))) tNil)) (tC (.int 2147483563))) (tC (.int 1))) tNil))))
        { nx := fun _ H' => Q .non H', rt := Q } [some (.ref a), some (.int k), some (.int c)] H := by
      intro c c0
      refine ⟨_, rfl, _, _, rfl, rfl, ⟨by decide, by decide, by decide⟩, _, _, rfl, rfl, _, _, rfl, ?_⟩
      refine ⟨_, rfl, .inl ⟨_, rfl, _, _, rfl, rfl, (by show (0 : Int) < 2147483549; decide), _, _, rfl, rfl, .inr ⟨by decide, by decide⟩, _, rfl, _, _, rfl, rfl, .inl ⟨by decide, by decide⟩, _, _, rfl, rfl, _, _, rfl, rfl, .inl ⟨_, rfl, _, _, rfl, rfl, (by show (0 : Int) < 2147483563; decide), _, _, rfl, rfl, ?_⟩⟩⟩
      refine ⟨(by show 2 ≤ sizeLine; decide), fun p hp => kk p _ hp (Evl.Ex.new hp) ⟨_, _, upd_same, ?_, ?_, ?_⟩⟩
      · split <;> omega
      · have := Int.emod_nonneg (c % 2147483549 * 40013 + 6007 * k + 31) (show (2147483563 : Int) ≠ 0 by decide)
        omega
      · have := Int.emod_lt_of_pos (c % 2147483549 * 40013 + 6007 * k + 31) (show (0 : Int) < 2147483563 by decide)
        omega
    refine ⟨_, rfl, _, rfl, a, _, rfl, .inl hs, _, _, rfl, rfl, _, rfl, ite2 (fun z => ?_) (fun z => ?_)⟩
    · have z' : k < ((ns.map V.int).length : Int) := of_decide_eq_true z
      rw [List.length_map] at z'
      have hk : k.toNat < ns.length := by omega
      refine ⟨_, rfl, _, rfl, a, _, k, .int ns[k.toNat], rfl, rfl, hs, at_of (j := k.toNat) (by omega) (by rw [List.getElem?_map, List.getElem?_eq_getElem hk]; rfl), _, rfl, fin _ ?_⟩
      split <;> omega
    · exact ⟨_, rfl, _, _, rfl, rfl, .inl ⟨by decide, by decide⟩, _, _, rfl, rfl, fin _ (by omega)⟩
/-- a drawn pair -/
def DrAt (H : Hp) (t : Addr) (u v : Int) : Prop := H t = some (.tup [.int u, .int v]) ∧ v ≠ 0 ∧ u.natAbs < 2 ^ 52 ∧ v.natAbs < 2 ^ 52
def spDrawn : Sp := fun vs H Q _ => ∃ p, vs = [.ref p] ∧ PotAt H p ∧ ∀ t u v H', ExP p H H' → H' t = some (.tup [.int u, .int v]) → v ≠ 0 → u.natAbs < 2 ^ 50 → v.natAbs < 2 ^ 50 → t ≠ p → Q (.ref t) H'
abbrev DDraw (P : Program) (w : World) (K : PySem.W.Frag) (mg : Str → Option Value) (base : Heap) := Df P w K mg base 1 "_law_draw" ["_law_pot_here", "_law_size"] spDraw
abbrev DPick (P : Program) (w : World) (K : PySem.W.Frag) (mg : Str → Option Value) (base : Heap) := Df P w K mg base 2 "_law_pick" ["_law_pot_here", "_law_some"] spPick
theorem scDrawn : FnScope ["_law_pot_here", "_law_wide", "_law_above", "_law_below", "_law_many"] ["_law_pot_here"] (defScope sDrawn) := ⟨rfl, rfl, rfl, by decide +kernel, rfl, by decide +kernel, by decide +kernel⟩
theorem pick5 {x : V} {i : Nat} (h : [V.int 3, V.int 9, V.int 12, V.int 30, V.int (10 ^ (14 : Int).toNat)][i]? = some x) : ∃ z : Int, x = .int z ∧ 3 ≤ z ∧ z ≤ 100000000000000 := by
  match i, h with
  | 0, h => exact ⟨3, by simpa using h.symm, by decide, by decide⟩
  | 1, h => exact ⟨9, by simpa using h.symm, by decide, by decide⟩
  | 2, h => exact ⟨12, by simpa using h.symm, by decide, by decide⟩
  | 3, h => exact ⟨30, by simpa using h.symm, by decide, by decide⟩
  | 4, h => exact ⟨100000000000000, by simpa using h.symm, by decide, by decide⟩
  | i + 5, h => simp at h
theorem pick4 {x : V} {i : Nat} (h : [V.int 1, V.int 1, V.int 2, V.int 6][i]? = some x) : ∃ z : Int, x = .int z ∧ 1 ≤ z ∧ z ≤ 6 := by
  match i, h with
  | 0, h => exact ⟨1, by simpa using h.symm, by decide, by decide⟩
  | 1, h => exact ⟨1, by simpa using h.symm, by decide, by decide⟩
  | 2, h => exact ⟨2, by simpa using h.symm, by decide, by decide⟩
  | 3, h => exact ⟨6, by simpa using h.symm, by decide, by decide⟩
  | i + 4, h => simp at h
theorem ExP.new {p t : Addr} {o : HO} {H : Hp} (hp : PotAt H p) (ht : H t = none) : ExP p H (upd H t o) := ExP.of hp (Evl.Ex.new ht)
theorem mul6 {a z : Int} (h1 : -100000000000000 ≤ a) (h2 : a ≤ 100000000000000) (z1 : 1 ≤ z) (z2 : z ≤ 6) : (a * z).natAbs < 2 ^ 50 := by
  rw [Int.natAbs_mul]
  have ha : a.natAbs ≤ 100000000000000 := by omega
  have hz : z.natAbs ≤ 6 := by omega
  have := Nat.mul_le_mul ha hz
  omega
theorem ok_drawn (D : DDraw P w K mg base) (Pk : DPick P w K mg base) {f : Addr} {fd : FuncData} (F : Fun K "_law_drawn" "_law_drawn" sDrawn f fd) : FnOk P w K mg base CX0 3 f fd ["_law_pot_here"] spDrawn := by
  refine F.ok scDrawn (fun vs H Q E h => ?_) (fun cdv A outer s H vs Q E hr h => ?_)
  · obtain ⟨p, rfl, _⟩ := h
    rfl
  · obtain ⟨p, rfl, hp, k⟩ := h
    refine ⟨_, pss_cons (ps_set (i := 1) scDrawn.nd rfl (Or.inl rfl) (pe_df Pk hr (pa_cons (pv 0) (pa_cons (pe_lst (pa_cons pe_int (pa_cons pe_int (pa_cons pe_int (pa_cons pe_int (pa_cons (pe_op op_pow pe_int pe_int) pa_nil)))))) pa_nil))))
      (pss_cons (ps_par (i := 2) (j := 3) (by rfl) scDrawn.nd rfl rfl (by decide) rfl rfl (pa_cons (pe_op op_sub (pe_df D hr (pa_cons (pv 0) (pa_cons (pe_op op_add (pe_op op_mul pe_int (pv 1)) pe_int) pa_nil))) (pv 1)) (pa_cons (pe_op op_add pe_int (pe_df D hr (pa_cons (pv 0) (pa_cons (pv 1) pa_nil)))) pa_nil)) (by rfl))
      (pss_cons (ps_set (i := 4) scDrawn.nd rfl (Or.inl rfl) (pe_df Pk hr (pa_cons (pv 0) (pa_cons (pe_lst (pa_cons pe_int (pa_cons pe_int (pa_cons pe_int (pa_cons pe_int pa_nil))))) pa_nil))))
      (pss_one (ps_ret (pe_tup (pa_cons (pe_op op_mul (pv 2) (pv 4)) (pa_cons (pe_ifExp (pt_cmpR op_gt (pe_df D hr (pa_cons (pv 0) (pa_cons pe_int pa_nil))) pe_int (nomark _)) (pe_op op_mul (pv 3) (pv 4)) (pe_op op_mul (pe_un un_neg (pv 3)) (pv 4))) pa_nil))))))), ?_⟩
    refine ⟨_, rfl, _, _, rfl, rfl, ⟨by decide, by decide, by decide⟩, (by show 5 ≤ sizeLine; decide), fun l hl => ?_⟩
    have npl : l ≠ p := by obtain ⟨x, y, h, _⟩ := hp; exact (ne_of_none h hl).symm
    have e0 := ExP.new (o := .lst [V.int 3, V.int 9, V.int 12, V.int 30, V.int (10 ^ (14 : Int).toNat)]) hp hl
    refine ⟨p, l, _, rfl, e0.pot, upd_same, npl, (by show 0 < 5; decide), (by show 5 ≤ 100; decide), fun i x H1 hx e1 => ?_⟩
    obtain ⟨wd, rfl, w0, w1⟩ := pick5 hx
    refine ⟨_, rfl, _, rfl, _, _, rfl, rfl, .inl ⟨by decide, by decide⟩, _, _, rfl, rfl, p, _, rfl, e1.pot, by omega, by omega, fun d1 H2 a0 a1 e2 => ?_⟩
    refine ⟨_, rfl, _, _, rfl, rfl, _, rfl, _, rfl, p, _, rfl, e2.pot, by omega, by omega, fun d2 H3 b0 b1 e3 => ?_⟩
    refine ⟨_, _, rfl, rfl, _, _, rfl, ?_⟩
    refine ⟨_, rfl, (by show 4 ≤ sizeLine; decide), fun l2 hl2 => ?_⟩
    have npl2 : l2 ≠ p := by obtain ⟨x, y, h, _⟩ := e3.pot; exact (ne_of_none h hl2).symm
    have e4 := ExP.new (o := .lst [V.int 1, V.int 1, V.int 2, V.int 6]) e3.pot hl2
    refine ⟨p, l2, _, rfl, e4.pot, upd_same, npl2, (by show 0 < 4; decide), (by show 4 ≤ 100; decide), fun i2 x2 H5 hx2 e5 => ?_⟩
    obtain ⟨mz, rfl, m0, m1⟩ := pick4 hx2
    refine ⟨_, rfl, _, rfl, _, _, rfl, rfl, .inr ⟨by omega, by omega⟩, ?_⟩
    refine ⟨_, rfl, p, _, rfl, e5.pot, by decide, by decide, fun d3 H6 c0 c1 e6 => ?_⟩
    have eA := ((((e0.trans e1).trans e2).trans e3).trans e4).trans (e5.trans e6)
    have k1 := mul6 (a := d1 - wd) (z := mz) (by omega) (by omega) m0 m1
    have k2 := mul6 (a := 1 + d2) (z := mz) (by omega) (by omega) m0 m1
    have k3 := mul6 (a := -(1 + d2)) (z := mz) (by omega) (by omega) m0 m1
    have npt : ∀ t, H6 t = none → t ≠ p := fun t ht => by obtain ⟨x, y, h, _⟩ := e6.pot; exact (ne_of_none h ht).symm
    refine ⟨_, _, rfl, rfl, _, rfl, ite2 (fun z => ?_) (fun z => ?_)⟩
    · refine ⟨_, rfl, _, rfl, _, _, rfl, rfl, .inr ⟨by omega, by omega⟩, (by show 2 ≤ sizeLine; decide), fun t ht => ?_⟩
      exact k t _ _ _ (eA.trans (ExP.new e6.pot ht)) upd_same (Int.mul_ne_zero (by omega) (by omega)) k1 k2 (npt t ht)
    · refine ⟨_, rfl, _, rfl, _, rfl, _, _, rfl, rfl, .inr ⟨by omega, by omega⟩, (by show 2 ≤ sizeLine; decide), fun t ht => ?_⟩
      exact k t _ _ _ (eA.trans (ExP.new e6.pot ht)) upd_same (Int.mul_ne_zero (by omega) (by omega)) k1 k3 (npt t ht)
end
end K11
namespace K11
open PySem L2 GX KM
open Evl (Ex)
/-! ### lists of ints and bools, shown -/
def Leaf (d : PyData) : Prop := (∃ i, d = .int i ∧ i.natAbs.log2 < 1920) ∨ ∃ b, d = .bool b
theorem leaf_show {d : PyData} (h : Leaf d) : d.showable = true ∧ d.hasDict = false ∧ d.depth = 0 ∧ d.shown.length ≤ 1921 := by
  rcases h with ⟨i, rfl, hi⟩ | ⟨b, rfl⟩
  · exact ⟨by simp [PyData.showable, hi], by simp [PyData.hasDict], by simp [PyData.depth], len_i hi⟩
  · refine ⟨by simp [PyData.showable], by simp [PyData.hasDict], by simp [PyData.depth], ?_⟩
    cases b
    · exact Nat.le_trans (show (Str.ofString "False").length ≤ 5 by decide +kernel) (by decide)
    · exact Nat.le_trans (show (Str.ofString "True").length ≤ 5 by decide +kernel) (by decide)
theorem leaves_all : ∀ {ds : List PyData}, (∀ d ∈ ds, Leaf d) → PyData.showableAll ds = true ∧ PyData.hasDictAll ds = false ∧ PyData.depthAll ds = 0 ∧ ((PyData.shownAll ds).map (·.length)).sum ≤ 1921 * ds.length ∧ (PyData.shownAll ds).length = ds.length
  | [], _ => ⟨by simp [PyData.showableAll], by simp [PyData.hasDictAll], by simp [PyData.depthAll], by simp [PyData.shownAll], by simp [PyData.shownAll]⟩
  | d :: ds, h => by
    obtain ⟨a1, a2, a3, a4⟩ := leaf_show (h d (List.mem_cons_self ..))
    obtain ⟨b1, b2, b3, b4, b5⟩ := leaves_all (ds := ds) fun x hx => h x (List.mem_cons_of_mem _ hx)
    refine ⟨by simp [PyData.showableAll, a1, b1], by simp [PyData.hasDictAll, a2, b2], by simp [PyData.depthAll, a3, b3], ?_, ?_⟩
    · rw [PyData.shownAll, List.map_cons, List.sum_cons, List.length_cons]
      omega
    · rw [PyData.shownAll, List.length_cons, List.length_cons, b5]
theorem leaves_show {ds : List PyData} (h : ∀ d ∈ ds, Leaf d) (hl : ds.length ≤ 100) :
    (PyData.list ds).showable = true ∧ (PyData.list ds).hasDict = false ∧ (PyData.list ds).depth ≤ 60 ∧ (PyData.list ds).shown.length ≤ sizeLine := by
  obtain ⟨b1, b2, b3, b4, b5⟩ := leaves_all h
  refine ⟨by simp [PyData.showable, b1], by simp [PyData.hasDict, b2], by simp [PyData.depth, b3], ?_⟩
  rw [PyData.shown]
  have := listText_len_le (PyData.shownAll ds)
  rw [b5] at this
  exact line_of (by omega)

/-! ### the kit of the law -/
section
variable {P : Program} {w : World} {K : PySem.W.Frag} {mg : Str → Option Value} {base : Heap}
/-- a method of Ratio -/
structure Mt (R : RK P w K mg base) (n : Nat) (x : Str) (ps : List Str) (sp : Sp) where
  f : Addr
  fd : FuncData
  F : FnOk P w K mg base CX0 n f fd ps sp
  m : Meth K R.C x f
  b : Binds K fd ps []
/-- a property of Ratio -/
structure Pr (R : RK P w K mg base) (x : Str) (sp : Sp) where
  p : Addr
  g : Addr
  fd : FuncData
  F : FnOk P w K mg base CX0 1 g fd ["self"] sp
  o : PropOf K R.C x p g
  b : Binds K fd ["self"] []
structure LK (P : Program) (w : World) (K : PySem.W.Frag) (mg : Str → Option Value) (base : Heap) where
  R : RK P w K mg base
  N : Bn mg
  sign : Pr R "sign" (spSign R.C)
  whole : Pr R "is_whole" (spWhole R.C)
  neg : Mt R 4 "__neg__" ["self"] (spNeg R.C)
  size : Mt R 4 "size" ["self"] (spSize R.C)
  over : Mt R 5 "over" ["self", "other"] (spOver R.C)
  overK : KBn K over.fd ["self", "other"] 1 ["other"] (fun us ws => us ++ ws) (fun vs zs => vs ++ zs)
  below : Mt R 5 "is_below" ["self", "other"] (spCmp R.C fun r s => decide (r < s))
  belowK : KBn K below.fd ["self", "other"] 1 ["other"] (fun us ws => us ++ ws) (fun vs zs => vs ++ zs)
  most : Mt R 5 "is_at_most" ["self", "other"] (spCmp R.C fun r s => decide (r ≤ s))
  eq : Mt R 1 "__eq__" ["self", "other"] (spEqR R.C)
  ne : PySem.W.findIn K (.ref R.C) "__ne__" = some (some (.builtin "object.__ne__"))
  str : Mt R 1 "__str__" ["self"] (spStr R.C)
  repr : Mt R 1 "__repr__" ["self"] (spRepr R.C)
  add : BinK R .Add (· + ·)
  sub : BinK R .Sub (· - ·)
  mul : BinK R .Mult (· * ·)
  radd : Mt R 6 "__radd__" ["self", "other"] (spRBin R.C (· + ·))
  rsub : Mt R 6 "__rsub__" ["self", "other"] (spRBin R.C (· - ·))
  rmul : Mt R 6 "__rmul__" ["self", "other"] (spRBin R.C (· * ·))
  siC : PySem.W.subIn K (.type "int") (.ref R.C) = some false
  sCi : PySem.W.subIn K (.ref R.C) (.type "int") = some false
  kwG : List Value → List Value → List Value
  kwV : List V → List V → List V
  kwE : ∀ x b t, kwV [x] [b, t] = [x, t, b]
  kw : KBn K R.fdI ["self", "top", "bottom"] 1 ["bottom", "top"] kwG kwV
  draw : DDraw P w K mg base
  pick : DPick P w K mg base
  low : DLow P w K mg base
  pair : Df P w K mg base 3 "_law_pair" ["_law_number"] (spPair R.C)
  plus : Df P w K mg base 2 "_law_plus" ["_law_one", "_law_other"] (spPB (· + ·))
  times : Df P w K mg base 2 "_law_times" ["_law_one", "_law_other"] (spPB (· * ·))
  isMost : Df P w K mg base 1 "_law_is_most" ["_law_one", "_law_other"] spMostP
  drawn : Df P w K mg base 3 "_law_drawn" ["_law_pot_here"] spDrawn
  shown : Df P w K mg base 1 "_law_shown" ["_law_pair_here"] spShown
section
variable {X : Cx} {j : Nat} {e e1 e2 : Expr} {te t1 t2 : TE} {pos p apos kpos kpos2 : Pos} (L : LK X.prog X.w X.K X.mg X.base)
theorem pe_pr {R : RK X.prog X.w X.K X.mg X.base} {x : Str} {sp : Sp} (Z : Pr R x sp) (hr : Room j X.A) (he : PE X e te) (hj : 2 ≤ j := by decide) (hab : attributeBase e x X.env (eval e X.env) = eval e X.env := by rfl) : PE X (.Attribute e x pos) (tProp R.C sp [] E0 te) :=
  pe_prop he R.T.cl Z.o Z.F (hr.mono hj) Z.b .nil pass0 hab
theorem pe_mt0' {R : RK X.prog X.w X.K X.mg X.base} {n : Nat} {x : Str} {ps : List Str} {sp : Sp} {pl : Sem Bool} (Z : Mt R n x ps sp) (hr : Room j X.A) (he : PE X e te) (hj : n ≤ j := by decide)
    (ht : eval (.Call (.Attribute e x apos) [] [] pos) X.env = (do
      let ov ← eval e X.env
      standAt apos.atName
      let (f, first) ← holding [ov] (getMethod ov x pl)
      callWith pos f first (backTo pos (starEach [] X.env)) (backToKw pos (keywordEach [] X.env))) := by rfl) : PE X (.Call (.Attribute e x apos) [] [] pos) (tMeth R.C x sp [] E0 te tNil) :=
  pe_meth0 (pl := pl) he R.T.cl Z.m Z.F (hr.mono hj) Z.b .nil pass0 ht
theorem pe_mt1 {R : RK X.prog X.w X.K X.mg X.base} {n : Nat} {x : Str} {ps : List Str} {sp : Sp} {pl : Sem Bool} (Z : Mt R n x ps sp) (hr : Room j X.A) (he : PE X e te) (ha : PE X e1 t1) (hj : n ≤ j := by decide)
    (hst : starEach [e1] X.env = (false, eval e1 X.env) :: starEach [] X.env := by rfl)
    (ht : eval (.Call (.Attribute e x apos) [e1] [] pos) X.env = (do
      let ov ← eval e X.env
      standAt apos.atName
      let (f, first) ← holding [ov] (getMethod ov x pl)
      callWith pos f first (backTo pos (starEach [e1] X.env)) (backToKw pos (keywordEach [] X.env))) := by rfl) : PE X (.Call (.Attribute e x apos) [e1] [] pos) (tMeth R.C x sp [] E0 te (tCons t1 tNil)) :=
  pe_meth (pl := pl) he R.T.cl Z.m Z.F (hr.mono hj) Z.b .nil pass0 (pa_cons ha pa_nil hst) hst rfl ht
theorem pe_isR (hg : Gl X "isinstance") (hgR : Gl X "Ratio") (he : PA X [e, .Name "Ratio" p] (tCons te (tCons (tC (.ref L.R.C)) tNil))) (hst : starEach [e, .Name "Ratio" p] X.env = (false, eval e X.env) :: starEach [.Name "Ratio" p] X.env := by rfl) (hpl : (backTo pos (starEach [.Name "Ratio" p] X.env)).any (·.1) = false := by rfl) : PE X (.Call (.Name "isinstance" apos) [e, .Name "Ratio" p] [] pos) (tCB (rIsi X.K) (tCons te (tCons (tC (.ref L.R.C)) tNil))) :=
  pe_callB call_isi hg L.R.T.isi (by decide +kernel) he (by decide) (by decide) hst hpl
end
end
end K11
namespace K11
open PySem L2 GX KM
open Evl (Ex)
abbrev sOneR : Stmt := top 23
theorem sign_if (i : Int) : ((if decide (0 < i) = true then (1 : Int) else 0) - (if decide (i < 0) = true then (1 : Int) else 0)) = i.sign := by
  rcases Int.lt_trichotomy i 0 with h | h | h
  · rw [decide_eq_false (by omega), decide_eq_true h, Int.sign_eq_neg_one_of_neg h]; simp
  · subst h; simp
  · rw [decide_eq_true h, decide_eq_false (by omega), Int.sign_eq_one_of_pos h]; simp
def prD (r : Rat) : PyData := .tuple [.int r.num, .int (r.den : Int)]
theorem dp_pr {K : PySem.W.Frag} {H : Hp} {t : Addr} {r : Rat} (h : PrAt H t r) : Dp K H (.ref t) (prD r) := .tup (SqT.of h) (.cons (.int _) (.cons (.int _) .nil))
theorem sh_pr (r : Rat) : SeqAt.shaped (prD r) = true := rfl
theorem eqv_pr (r s : Rat) : PyData.eqv (prD r) (prD s) = decide (r = s) := by
  rw [dec_rat]
  show ((r.num == s.num) && (((r.den : Int) == (s.den : Int)) && true)) = _
  rw [Bool.and_true]
  rfl
theorem made_ex {C x dx : Addr} {H H' : Hp} {r : Rat} (hx : H x = none) (hdx : H dx = none) (e : H' = upd (upd (upd H dx (.own x)) x (.ins C dx [])) x (.ins C dx (pf r.num r.den))) : Ex H H' ∧ RtAt C H' x r := by
  subst e
  refine ⟨fun b o e => ?_, dx, upd_same⟩
  rw [upd_ne (ne_of_none e hx), upd_ne (ne_of_none e hx), upd_ne (ne_of_none e hdx)]
  exact e
theorem leaf4 {a b c : Int} {x : Bool} (h1 : a.natAbs.log2 < 1920) (h2 : b.natAbs.log2 < 1920) (h3 : c.natAbs.log2 < 1920) : ∀ d ∈ [PyData.int a, .int b, .int c, .bool x], Leaf d := by
  intro d hd
  simp at hd
  rcases hd with rfl | rfl | rfl | rfl
  · exact .inl ⟨_, rfl, h1⟩
  · exact .inl ⟨_, rfl, h2⟩
  · exact .inl ⟨_, rfl, h3⟩
  · exact .inr ⟨_, rfl⟩
theorem log_small {i : Int} (h : i.natAbs ≤ 1) : i.natAbs.log2 < 1920 := by
  have : i.natAbs < 2 ^ 1 := by omega
  exact Nat.lt_of_lt_of_le (PySem.Flt.log2_lt_of (by decide) this) (by decide)
theorem sign_abs (i : Int) : i.sign.natAbs ≤ 1 := by
  rcases Int.lt_trichotomy i 0 with h | h | h
  · rw [Int.sign_eq_neg_one_of_neg h]; decide
  · subst h; decide
  · rw [Int.sign_eq_one_of_pos h]; decide
/-- a def's promise where no repr is under way, as it stands -/
structure Dg (P : Program) (w : World) (K : PySem.W.Frag) (mg : Str → Option Value) (base : Heap) (n : Nat) (x : Str) (ps : List Str) (sp : Sp) where
  f : Addr
  fd : FuncData
  F : FnG P w K mg base CX0 n f fd ps sp
  m : mg x = some (.ref f)
  kp : PySem.W.keepIn K (.ref f) = true
  b : Binds K fd ps []
theorem pe_dg {X : Cx} {n j : Nat} {x : Str} {ps : List Str} {sp : Sp} {p pos : Pos} {e : Expr} {es : List Expr} {t : TA} (D : Dg X.prog X.w X.K X.mg X.base n x ps sp) (gd : X.A.guards = some []) (hr : Room j X.A) (ha : PA X (e :: es) t) (hj : n ≤ j := by decide) (hg : Gl X x := by rfl)
    (hdb : (x == ("__debug__" : Str)) = false := by decide) (he : starEach (e :: es) X.env = (false, eval e X.env) :: starEach es X.env := by rfl)
    (hpl : (backTo pos (starEach es X.env)).any (·.1) = false := by rfl) : PE X (.Call (.Name x p) (e :: es) [] pos) (tCall sp [] E0 t) :=
  pe_callG D.F gd (hr.mono hj) hg D.m D.kp D.b .nil pass0 ha hdb he hpl
section
variable {P : Program} {w : World} {K : PySem.W.Frag} {mg : Str → Option Value} {base : Heap}
def spOneR : Sp := fun vs H Q _ => ∃ t u v, vs = [.ref t] ∧ DrAt H t u v ∧ ∀ H', Ex H H' → Q (.bl true) H'
theorem scOneR : FnScope ["_law_drawn_here", "_law_due", "_law_one", "_law_told", "_law_whole"] ["_law_drawn_here"] (defScope sOneR) := ⟨rfl, rfl, rfl, by decide +kernel, rfl, by decide +kernel, by decide +kernel⟩
theorem ok_oneR (L : LK P w K mg base) {f : Addr} {fd : FuncData} (F : Fun K "_law_one_right" "_law_one_right" sOneR f fd) : FnG P w K mg base CX0 5 f fd ["_law_drawn_here"] spOneR := by
  refine okG F scOneR (fun vs H Q E h => ?_) (fun cdv A outer s H vs Q E gd hr h => ?_)
  · obtain ⟨t, u, v, rfl, _⟩ := h
    rfl
  · obtain ⟨t, u, v, rfl, ⟨ht, v0, hu, hv⟩, k⟩ := h
    have hr3 : Room 3 _ := hr.mono (by decide)
    have hr2 : Room 2 _ := hr.mono (by decide)
    have hr1 : Room 1 _ := hr.mono (by decide)
    refine ⟨_, pss_cons (ps_set (i := 1) scOneR.nd rfl (Or.inl rfl) (pe_df L.low hr (pa_cons (pe_ix ix_tup (pv 0) pe_int (fun _ _ => rfl)) (pa_cons (pe_ix ix_tup (pv 0) pe_int (fun _ _ => rfl)) pa_nil))))
      (pss_cons (ps_for PassesOwn.never rfl (pi_list (pe_lst (pa_cons (pe_mk2 L.R hr3 (by rfl) (pa_cons (pe_ix ix_tup (pv 0) pe_int (fun _ _ => rfl)) (pa_cons (pe_ix ix_tup (pv 0) pe_int (fun _ _ => rfl)) pa_nil)))
            (pa_cons (pe_makeK0 L.R.mkr.M L.R.mkr.G hr3 (by rfl) L.R.T.mgC L.kw pass0 (pk_cons (pe_ix ix_tup (pv 0) pe_int (fun _ _ => rfl)) (pk_cons (pe_ix ix_tup (pv 0) pe_int (fun _ _ => rfl)) pk_nil))) pa_nil)))) (pg_name (i := 2) scOneR.nd rfl (Or.inl rfl))
        (pss_cons (ps_set (i := 3) scOneR.nd rfl (Or.inl rfl) (pe_lst (pa_cons (pe_top L.R hr2 (pv 2)) (pa_cons (pe_bot L.R hr2 (pv 2)) (pa_cons (pe_pr L.sign hr (pv 2)) (pa_cons (pe_pr L.whole hr (pv 2)) pa_nil))))))
        (pss_cons (ps_if (pt_cmpR op_ne (pe_callB (cr_reprD gd hr) (by rfl) L.N.repr (by decide +kernel) (pa_cons (pv 3) pa_nil))
            (pe_callB (cr_reprD gd hr) (by rfl) L.N.repr (by decide +kernel) (pa_cons (pe_lst (pa_cons (pe_ix ix_tup (pv 1) pe_int (fun _ _ => rfl)) (pa_cons (pe_ix ix_tup (pv 1) pe_int (fun _ _ => rfl))
              (pa_cons (pe_op op_sub (pe_callTy call_int1 (by rfl) L.N.int (by decide +kernel) (pa_cons (pe_cmpR op_gt (pe_ix ix_tup (pv 1) pe_int (fun _ _ => rfl)) pe_int (nomark _)) pa_nil)) (pe_callTy call_int1 (by rfl) L.N.int (by decide +kernel) (pa_cons (pe_cmpR op_lt (pe_ix ix_tup (pv 1) pe_int (fun _ _ => rfl)) pe_int (nomark _)) pa_nil)))
              (pa_cons (pe_cmpR op_eq (pe_ix ix_tup (pv 1) pe_int (fun _ _ => rfl)) pe_int (nomark _)) pa_nil))))) pa_nil)) (nomark _)) (pss_one ps_never) pss_nil)
        (pss_cons (ps_if (PW.pt (pw_or (pt_cmpR op_ne (pe_callTy (cr_strOwn L.str.F hr3 L.str.b L.str.m.at_ L.str.m.fn (E := E0)) (by rfl) L.N.str (by decide +kernel) (pa_cons (pv 2) pa_nil)) (pe_df L.shown hr (pa_cons (pv 1) pa_nil)) (nomark _))
            (pw_or1 (pt_cmpR op_ne (pe_callB (cr_reprOwn L.repr.F hr2 L.repr.b L.repr.m.at_ L.repr.m.fn (E := E0)) (by rfl) L.N.repr (by decide +kernel) (pa_cons (pv 2) pa_nil))
              (pe_op op_add_str (pe_op op_add_str (pe_op op_add_str (pe_op op_add_str pe_str (pe_callTy call_str_int (by rfl) L.N.str (by decide +kernel) (pa_cons (pe_ix ix_tup (pv 1) pe_int (fun _ _ => rfl)) pa_nil))) pe_str) (pe_callTy call_str_int (by rfl) L.N.str (by decide +kernel) (pa_cons (pe_ix ix_tup (pv 1) pe_int (fun _ _ => rfl)) pa_nil))) pe_str) (nomark _))))) (pss_one ps_never) pss_nil)
        (pss_cons (ps_if (PW.pt (pw_or (pt_cmpR (op_neD hr.units) (pe_df L.pair hr (pa_cons (pe_un (un_own L.neg.F hr L.neg.b L.neg.m.at_ L.neg.m.fn (E := E0)) (pv 2)) pa_nil)) (pe_df L.low hr (pa_cons (pe_un un_neg (pe_ix ix_tup (pv 1) pe_int (fun _ _ => rfl))) (pa_cons (pe_ix ix_tup (pv 1) pe_int (fun _ _ => rfl)) pa_nil))) (nomark _))
            (pw_or1 (pt_cmpR (op_neD hr.units) (pe_df L.pair hr (pa_cons (pe_mt0' L.size hr (pv 2)) pa_nil)) (pe_tup (pa_cons (pe_callB call_abs (by rfl) L.N.abs (by decide +kernel) (pa_cons (pe_ix ix_tup (pv 1) pe_int (fun _ _ => rfl)) pa_nil)) (pa_cons (pe_ix ix_tup (pv 1) pe_int (fun _ _ => rfl)) pa_nil))) (nomark _))))) (pss_one ps_never) pss_nil)
        (pss_one (ps_if (PW.pt (pw_or (pt_not (pt_val (pe_isR L (by rfl) (by rfl) (pa_cons (pe_un (un_own L.neg.F hr L.neg.b L.neg.m.at_ L.neg.m.fn (E := E0)) (pv 2)) (pa_cons (pe_glob (v := .ref L.R.C) (by rfl) L.R.T.mgC rfl) pa_nil)))))
            (pw_or1 (pt_not (pt_val (pe_isR L (by rfl) (by rfl) (pa_cons (pe_mt0' L.size hr (pv 2)) (pa_cons (pe_glob (v := .ref L.R.C) (by rfl) L.R.T.mgC rfl) pa_nil)))))))) (pss_one ps_never) pss_nil)))))))
      (pss_cons (ps_set (i := 4) scOneR.nd rfl (Or.inl rfl) (pe_make L.R.mkr.M L.R.mkr.G hr3 (by rfl) L.R.T.mgC L.R.mkr.b1 L.R.mkr.d1 pass0 (pa_cons (pe_ix ix_tup (pv 0) pe_int (fun _ _ => rfl)) pa_nil)))
      (pss_one (ps_ret (pe_and (pe_cmpR (op_eqD hr.units) (pe_df L.pair hr (pa_cons (pv 4) pa_nil)) (pe_tup (pa_cons (pe_ix ix_tup (pv 0) pe_int (fun _ _ => rfl)) (pa_cons pe_int pa_nil))) (nomark _))
        (pe_and (pe_cmpR op_isBl (pe_pr L.whole hr (pv 4)) pe_bl (nomark _)) (pe_one (pe_cmpR op_eq (pe_callTy (cr_strOwn L.str.F hr3 L.str.b L.str.m.at_ L.str.m.fn (E := E0)) (by rfl) L.N.str (by decide +kernel) (pa_cons (pv 4) pa_nil)) (pe_callTy call_str_int (by rfl) L.N.str (by decide +kernel) (pa_cons (pe_ix ix_tup (pv 0) pe_int (fun _ _ => rfl)) pa_nil)) (nomark _))))))))), ?_⟩
    have sz : Sz 52 (Rat.divInt u v) := Sz.low hu hv v0
    generalize hr0 : Rat.divInt u v = r at sz
    have l1 := log1920 sz.num sz.pos (by decide)
    have l2 := log1920 sz.den sz.pos (by decide)
    refine ⟨_, rfl, t, _, _, _, rfl, rfl, SqT.of ht, atI_nat (j := 0) rfl, _, rfl, t, _, _, _, rfl, rfl, SqT.of ht, atI_nat (j := 1) rfl, u, v, 52, rfl, v0, hu, hv, by decide, fun d H1 e1 hd => ?_⟩
    rw [hr0] at hd
    have ht1 := e1 _ _ ht
    have q9 : v.natAbs < 2 ^ 9000 := lt_more hv (by decide)
    refine ⟨_, rfl, t, _, _, _, rfl, rfl, SqT.of ht1, atI_nat (j := 0) rfl, _, rfl, t, _, _, _, rfl, rfl, SqT.of ht1, atI_nat (j := 1) rfl, fun a da xa xda _ => ⟨a, da, u, v, rfl, v0, q9, upd_same, fun H2 h2 => ⟨rfl, ?_⟩⟩⟩
    obtain ⟨e2, ha⟩ := made_ex xa xda h2
    have ht2 := e2 _ _ ht1
    refine ⟨_, rfl, t, _, _, _, rfl, rfl, SqT.of ht2, atI_nat (j := 1) rfl, _, rfl, t, _, _, _, rfl, rfl, SqT.of ht2, atI_nat (j := 0) rfl, rfl, rfl, fun b db xb xdb _ => ?_⟩
    refine ⟨b, db, u, v, L.kwE _ _ _, v0, q9, upd_same, fun H3 h3 => ⟨rfl, ?_⟩⟩
    obtain ⟨e3, hb⟩ := made_ex xb xdb h3
    rw [hr0] at ha hb
    refine ⟨(by show 2 ≤ sizeLine; decide), fun l hl => ?_⟩
    have e4 : Ex H3 (upd H3 l (.lst [.ref a, .ref b])) := Evl.Ex.new hl
    generalize hH4 : upd H3 l (.lst [.ref a, .ref b]) = H4 at e4
    have hl4 : H4 l = some (.lst [.ref a, .ref b]) := by rw [← hH4]; exact upd_same
    have ht4 := e4 _ _ (e3 _ _ ht2)
    have hd4 : PrAt H4 d r := hd.mono (e2.trans (e3.trans e4))
    have ha4 : RtAt L.R.C H4 a r := ha.mono (e3.trans e4)
    have hb4 : RtAt L.R.C H4 b r := hb.mono e4
    have e04 : Ex H H4 := ((e1.trans e2).trans e3).trans e4
    have cc0 : (Str.ofString "Ratio(").length ≤ 6 := by decide +kernel
    have cc1 : (Str.ofString ", ").length ≤ 2 := by decide +kernel
    have cc2 : (Str.ofString ")").length ≤ 1 := by decide +kernel
    have m1 := len_i l1
    have m2 := len_i l2
    have g1 := ap_le (c := 1927) cc0 m1 (by omega)
    have g2 := ap_le (c := 1929) g1 cc1 (by omega)
    have g3 := ap_le (c := 3850) g2 m2 (by omega)
    have g4 := ap_le (c := 3851) g3 cc2 (by omega)
    refine ⟨l, rfl, ⟨_, SqL.of hl4⟩, ?_⟩
    refine for_list (K := K) (a := l) (xs := [.ref a, .ref b]) (fun i σ H' => ∃ one told, σ = [some (.ref t), some (.ref d), one, told, none] ∧ Ex H4 H') ⟨none, none, rfl, Evl.Ex.refl H4⟩ (fun i σ H' _ ⟨_, _, _, e⟩ => SqL.of (e _ _ hl4)) ?_ ?_
    · rintro i x σ H5 hx ⟨one, told, rfl, e5⟩
      obtain ⟨c, rfl, hc4⟩ : ∃ c, x = V.ref c ∧ RtAt L.R.C H4 c r := by
        match i, hx with
        | 0, hx => exact ⟨a, by simpa using hx.symm, ha4⟩
        | 1, hx => exact ⟨b, by simpa using hx.symm, hb4⟩
        | i + 2, hx => simp at hx
      have hc := hc4.mono e5
      have hd5 := hd4.mono e5
      obtain ⟨dc, hc'⟩ := id hc
      -- told = [one.top, one.bottom, one.sign, one.is_whole]
      refine ⟨_, rfl, c, dc, _, rfl, hc', c, r, rfl, hc, _, rfl, c, dc, _, rfl, hc', c, r, rfl, hc, _, rfl, c, dc, _, rfl, hc', c, r, rfl, hc, _, rfl, c, dc, _, rfl, hc', c, r, rfl, hc, (by show 4 ≤ sizeLine; decide), fun l1' hl1 => ?_⟩
      have e6 : Ex H5 (upd H5 l1' (.lst [.int r.num, .int (r.den : Int), .int r.num.sign, .bl (decide ((r.den : Int) = 1))])) := Evl.Ex.new hl1
      have hl6 : upd H5 l1' (.lst [.int r.num, .int (r.den : Int), .int r.num.sign, .bl (decide ((r.den : Int) = 1))]) l1' = _ := upd_same
      generalize upd H5 l1' (.lst [.int r.num, .int (r.den : Int), .int r.num.sign, .bl (decide ((r.den : Int) = 1))]) = H6 at e6 hl6 ⊢
      have hd6 := hd5.mono e6
      have lv1 := leaves_show (leaf4 (x := decide ((r.den : Int) = 1)) l1 l2 (log_small (sign_abs r.num))) (by show 4 ≤ 100; decide)
      refine ⟨_, rfl, l1', _, rfl, .lst (SqL.of hl6) (.cons (.int _) (.cons (.int _) (.cons (.int _) (.cons (.bl _) .nil)))), lv1.1, lv1.2.1, lv1.2.2.1, lv1.2.2.2, ?_⟩
      refine ⟨_, rfl, d, _, _, _, rfl, rfl, SqT.of hd6, atI_nat (j := 0) rfl, _, rfl, d, _, _, _, rfl, rfl, SqT.of hd6, atI_nat (j := 1) rfl, _, rfl, d, _, _, _, rfl, rfl, SqT.of hd6, atI_nat (j := 0) rfl, _, _, rfl, rfl, .inr ⟨_, rfl, _, rfl, d, _, _, _, rfl, rfl, SqT.of hd6, atI_nat (j := 0) rfl, _, _, rfl, rfl, .inr ⟨_, rfl, _, _, rfl, rfl, _, rfl, d, _, _, _, rfl, rfl, SqT.of hd6, atI_nat (j := 1) rfl, rfl, (by show 4 ≤ sizeLine; decide), fun l2' hl2 => ?_⟩⟩⟩
      dsimp only
      rw [sign_if, dec_i]
      have e7 : Ex H6 (upd H6 l2' (.lst [.int r.num, .int (r.den : Int), .int r.num.sign, .bl (decide ((r.den : Int) = 1))])) := Evl.Ex.new hl2
      have hl7 : upd H6 l2' (.lst [.int r.num, .int (r.den : Int), .int r.num.sign, .bl (decide ((r.den : Int) = 1))]) l2' = _ := upd_same
      generalize upd H6 l2' (.lst [.int r.num, .int (r.den : Int), .int r.num.sign, .bl (decide ((r.den : Int) = 1))]) = H7 at e7 hl7 ⊢
      refine ⟨l2', _, rfl, .lst (SqL.of hl7) (.cons (.int _) (.cons (.int _) (.cons (.int _) (.cons (.bl _) .nil)))), lv1.1, lv1.2.1, lv1.2.2.1, lv1.2.2.2, rfl, _, rfl, iteNS rfl ?_⟩
      have hc7 := hc.mono (e6.trans e7)
      have hd7 := hd6.mono e7
      obtain ⟨dc7, hc7'⟩ := id hc7
      -- str(one) != shown(due) or repr(one) != ..
      refine ⟨_, rfl, c, dc7, _, rfl, hc7', c, r, 52, rfl, hc7, sz, by decide, stT r, rfl, _, rfl, d, r, 52, rfl, hd7, sz, by decide, rfl, _, rfl, iteNS rfl ?_⟩
      refine ⟨_, rfl, c, dc7, _, rfl, hc7', c, r, 52, rfl, hc7, sz, by decide, rpT r, rfl, ?_⟩
      refine ⟨_, rfl, d, _, _, _, rfl, rfl, SqT.of hd7, atI_nat (j := 0) rfl, _, rfl, l1, _, _, rfl, rfl, line_of (by rw [← Str.length_append]; exact Nat.le_trans g1 (by decide)), ?_⟩
      refine ⟨_, _, rfl, rfl, line_of (by rw [← Str.length_append]; exact Nat.le_trans g2 (by decide)), ?_⟩
      refine ⟨_, rfl, d, _, _, _, rfl, rfl, SqT.of hd7, atI_nat (j := 1) rfl, _, rfl, l2, _, _, rfl, rfl, line_of (by rw [← Str.length_append]; exact Nat.le_trans g3 (by decide)), ?_⟩
      refine ⟨_, _, rfl, rfl, line_of (by rw [← Str.length_append]; exact Nat.le_trans g4 (by decide)), rfl, _, rfl, iteNS rfl ?_⟩
      -- pair(-one) != low(-due[0], due[1]) or pair(one.size()) != (abs(due[0]), due[1])
      refine ⟨_, rfl, c, dc7, _, rfl, hc7', c, r, 52, rfl, hc7, sz, by decide, fun n H8 e8 hn => ?_⟩
      refine ⟨_, _, rfl, .inr ⟨n, rfl, hn⟩, fun t1 H9 e9 ht1 => ?_⟩
      have hd9 := hd7.mono (e8.trans e9)
      refine ⟨_, rfl, d, _, _, _, rfl, rfl, SqT.of hd9, atI_nat (j := 0) rfl, _, rfl, _, rfl, d, _, _, _, rfl, rfl, SqT.of hd9, atI_nat (j := 1) rfl, -r.num, (r.den : Int), 52, rfl, dz r, (by rw [Int.natAbs_neg]; exact sz.num), sz.den, by decide, fun t2 H10 e10 ht2 => ?_⟩
      rw [neg_eq] at ht2
      refine ⟨prD (-r), prD (-r), dp_pr (ht1.mono e10), dp_pr ht2, sh_pr _, sh_pr _, _, rfl, ?_⟩
      rw [eqv_pr, decide_eq_true rfl]
      refine iteF ?_
      have hc10 := hc7.mono ((e8.trans e9).trans e10)
      have hd10 := hd9.mono e10
      obtain ⟨dc10, hc10'⟩ := id hc10
      refine ⟨_, rfl, c, dc10, _, rfl, hc10', pf_no _ _ (by decide +kernel) (by decide +kernel), c, r, 52, rfl, hc10, sz, by decide, fun z1 H11 e11 hz1 => ?_⟩
      refine ⟨_, _, rfl, .inr ⟨z1, rfl, hz1⟩, fun t3 H12 e12 ht3 => ?_⟩
      have hd12 := hd10.mono (e11.trans e12)
      refine ⟨_, rfl, d, _, _, _, rfl, rfl, SqT.of hd12, atI_nat (j := 0) rfl, _, rfl, _, rfl, d, _, _, _, rfl, rfl, SqT.of hd12, atI_nat (j := 1) rfl, (by show 2 ≤ sizeLine; decide), fun t4 ht4' => ?_⟩
      have e13 : Ex H12 (upd H12 t4 (.tup [.int (if r.num < 0 then -r.num else r.num), .int (r.den : Int)])) := Evl.Ex.new ht4'
      have ht4 : PrAt (upd H12 t4 (.tup [.int (if r.num < 0 then -r.num else r.num), .int (r.den : Int)])) t4 (Rat.divInt (r.num.natAbs : Int) r.den) := by
        unfold PrAt
        rw [upd_same, (abs_part r).1, (abs_part r).2, abs_if]
      generalize upd H12 t4 (.tup [.int (if r.num < 0 then -r.num else r.num), .int (r.den : Int)]) = H13 at e13 ht4 ⊢
      refine ⟨prD _, prD _, dp_pr (ht3.mono e13), dp_pr ht4, sh_pr _, sh_pr _, _, rfl, ?_⟩
      rw [eqv_pr, decide_eq_true rfl]
      refine iteF ?_
      -- not isinstance(-one, Ratio) or not isinstance(one.size(), Ratio)
      have hc13 := hc10.mono ((e11.trans e12).trans e13)
      obtain ⟨dc13, hc13'⟩ := id hc13
      refine ⟨_, rfl, c, dc13, _, rfl, hc13', c, r, 52, rfl, hc13, sz, by decide, fun n2 H14 e14 hn2 => ?_⟩
      refine ⟨_, _, _, _, true, rfl, .own _, tyR L.R.T hn2, L.R.T.kC, true, rfl, iteF ?_⟩
      have hc14 := hc13.mono e14
      obtain ⟨dc14, hc14'⟩ := id hc14
      refine ⟨_, rfl, c, dc14, _, rfl, hc14', pf_no _ _ (by decide +kernel) (by decide +kernel), c, r, 52, rfl, hc14, sz, by decide, fun z2 H15 e15 hz2 => ?_⟩
      refine ⟨_, _, _, _, true, rfl, .own _, tyR L.R.T hz2, L.R.T.kC, true, rfl, iteF ?_⟩
      refine ⟨_, _, rfl, ?_⟩
      exact ((((e5.trans e6).trans e7).trans ((e8.trans e9).trans e10)).trans ((e11.trans e12).trans e13)).trans (e14.trans e15)
    · rintro σ H5 ⟨one, told, rfl, e5⟩
      have ht5 := e5 _ _ ht4
      -- whole = Ratio(drawn[0])
      refine ⟨_, rfl, t, _, _, _, rfl, rfl, SqT.of ht5, atI_nat (j := 0) rfl, fun g dg xg xdg _ => ⟨g, dg, u, 1, rfl, by decide, one_lt, upd_same, fun H6 h6 => ⟨rfl, ?_⟩⟩⟩
      obtain ⟨e6, hg⟩ := made_ex xg xdg h6
      rw [of_int] at hg
      have zu : Sz 52 (u : Rat) := Sz.int hu (by decide)
      refine ⟨_, rfl, _, _, rfl, .inr ⟨g, rfl, hg⟩, fun t1 H7 e7 ht1 => ?_⟩
      have ht7 := e7 _ _ (e6 _ _ ht5)
      refine ⟨_, rfl, t, _, _, _, rfl, rfl, SqT.of ht7, atI_nat (j := 0) rfl, (by show 2 ≤ sizeLine; decide), fun t2 ht2' => ?_⟩
      have e8 : Ex H7 (upd H7 t2 (.tup [.int u, .int 1])) := Evl.Ex.new ht2'
      have ht2 : PrAt (upd H7 t2 (.tup [.int u, .int 1])) t2 (u : Rat) := upd_same
      generalize upd H7 t2 (.tup [.int u, .int 1]) = H8 at e8 ht2 ⊢
      refine ⟨prD _, prD _, dp_pr (ht1.mono e8), dp_pr ht2, sh_pr _, sh_pr _, true, (by rw [eqv_pr, decide_eq_true rfl]), iteT ?_⟩
      have hg8 := hg.mono (e7.trans e8)
      obtain ⟨dg8, hg8'⟩ := id hg8
      refine ⟨_, rfl, g, dg8, _, rfl, hg8', g, _, rfl, hg8, true, true, rfl, rfl, true, rfl, iteT ?_⟩
      have ht8 := e8 _ _ ht7
      have lu := log1920 hu (by decide) (by decide)
      refine ⟨_, rfl, g, dg8, _, rfl, hg8', g, _, 52, rfl, hg8, zu, by decide, _, rfl, _, rfl, t, _, _, _, rfl, rfl, SqT.of ht8, atI_nat (j := 0) rfl, _, rfl, lu, rfl, ?_⟩
      have es : stT (u : Rat) = Str.ofString (toString u) := rfl
      rw [es, decide_eq_true rfl]
      exact k _ (e04.trans (((e5.trans e6).trans e7).trans e8))
end
end K11
namespace K11
open PySem L2 GX KM
open Evl (Ex)
abbrev sTwoR : Stmt := top 24
/-- a list of pairs -/
def PrsAt (H : Hp) (D : Addr) (ts : List Addr) (rs : List Rat) : Prop := H D = some (.lst (ts.map V.ref)) ∧ ts.length = rs.length ∧ ∀ (i : Nat) t, ts[i]? = some t → ∃ r, rs[i]? = some r ∧ PrAt H t r
theorem dp_all {K : PySem.W.Frag} {H : Hp} : ∀ {ts : List Addr} {rs : List Rat}, ts.length = rs.length → (∀ (i : Nat) t, ts[i]? = some t → ∃ r, rs[i]? = some r ∧ PrAt H t r) → DpAll K H (ts.map V.ref) (rs.map prD)
  | [], rs, hl, _ => by
    have : rs = [] := by cases rs with | nil => rfl | cons => simp at hl
    subst this; exact .nil
  | t :: ts, rs, hl, h => by
    cases rs with
    | nil => simp at hl
    | cons r rs =>
      obtain ⟨r', e, ht⟩ := h 0 t rfl
      have : r = r' := by simpa using e
      subst this
      exact .cons (dp_pr ht) (dp_all (by simpa using hl) fun i t' ht' => h (i + 1) t' (by simpa using ht'))
theorem dp_prs {K : PySem.W.Frag} {H : Hp} {D : Addr} {ts : List Addr} {rs : List Rat} (h : PrsAt H D ts rs) : Dp K H (.ref D) (.list (rs.map prD)) := .lst (SqL.of h.1) (dp_all h.2.1 h.2.2)
theorem PrsAt.snoc {H H2 : Hp} {D t : Addr} {ts : List Addr} {rs : List Rat} {r : Rat} (h : PrsAt H D ts rs) (e : Ex H H2) (ht : PrAt H2 t r) :
    PrsAt (upd H2 D (.lst (ts.map V.ref ++ [.ref t]))) D (ts ++ [t]) (rs ++ [r]) := by
  have hD : H2 D = some (.lst (ts.map V.ref)) := e _ _ h.1
  have keep : ∀ x s, PrAt H2 x s → PrAt (upd H2 D (.lst (ts.map V.ref ++ [.ref t]))) x s := by
    intro x s hx
    unfold PrAt at hx ⊢
    rw [upd_ne (ne_of hx hD (by intro q; cases q))]
    exact hx
  refine ⟨by rw [upd_same, List.map_append]; rfl, by rw [List.length_append, List.length_append, h.2.1]; rfl, fun i x hx => ?_⟩
  by_cases hi : i < ts.length
  · rw [List.getElem?_append_left hi] at hx
    obtain ⟨s, h1, h2⟩ := h.2.2 i x hx
    exact ⟨s, by rw [List.getElem?_append_left (by rw [← h.2.1]; exact hi)]; exact h1, keep x s (h2.mono e)⟩
  · rw [List.getElem?_append_right (by omega)] at hx
    have h0 : i - ts.length = 0 := by
      cases hq : i - ts.length with
      | zero => rfl
      | succ n => rw [hq] at hx; simp at hx
    rw [h0] at hx
    have hx' : t = x := by simpa using hx
    subst hx'
    refine ⟨r, ?_, keep t r ht⟩
    rw [List.getElem?_append_right (by rw [← h.2.1]; omega), ← h.2.1, h0]
    rfl
theorem leaf2 {x y : Bool} : ∀ d ∈ [PyData.bool x, .bool y], Leaf d := by
  intro d hd
  simp at hd
  rcases hd with rfl | rfl
  · exact .inr ⟨_, rfl⟩
  · exact .inr ⟨_, rfl⟩
theorem eqv_self {d : PyData} (h : SeqAt.shaped d = true) : PyData.eqv d d = true := SeqAt.eqv_refl d (SeqAt.canLay_of_shaped h)
theorem set3 {σ : L2.St} {j : Nat} {x : Option V} : wipe ((wipe σ [j]).set j x) [j] = wipe σ [j] := by
  show ((σ.set j none).set j x).set j none = σ.set j none
  rw [List.set_set, List.set_set]
theorem lc_yes {K : PySem.W.Frag} {a : Addr} {xs : List V} {te : TE} {j : Nat} {σ : L2.St} {H1 : Hp} {D : Addr} {Qd : Hp → Prop} (Pv : Nat → Hp → Prop) (h0 : Pv 0 (upd H1 D (.lst []))) (hl : ∀ i H, i ≤ xs.length → Pv i H → SqL K H a xs)
    (hs : ∀ i x H, xs[i]? = some x → Pv i H → te ((wipe σ [j]).set j (some x)) H fun y H4 => ∃ acc, H4 D = some (.lst acc) ∧ acc.length < sizeLine ∧ Pv (i + 1) (upd H4 D (.lst (acc ++ [y])))) (hd : ∀ H, Pv xs.length H → Qd H) :
    ∃ W : Nat → Nat → Hp → Prop, (∃ m, W 0 m (upd H1 D (.lst []))) ∧ ∀ i m H, W i m H →
      ((Itl K a).stop i H ∧ Qd H) ∨ ((Itl K a).go i H ∧ ∃ Nx : Hp → Prop, (∀ H', Nx H' → ∃ m', m' < m ∧ W (i + 1) m' H') ∧ ∀ x H', (Itl K a).yld i H x H' → gName j x (wipe σ [j]) H' fun σ2 H2 => wipe σ2 [j] = wipe σ [j] ∧ tYes σ2 H2 fun b H3 =>
        if b = true then te σ2 H3 fun y H4 => ∃ acc, H4 D = some (.lst acc) ∧ acc.length < sizeLine ∧ Nx (upd H4 D (.lst (acc ++ [y]))) else Nx H3) :=
  lc_list (g := gName j) (tt := tYes) Pv h0 hl (fun i x H hx p => ⟨set3, iteT (B := Pv (i + 1) H) (hs i x H hx p)⟩) hd
theorem dec_bl' {a b : Bool} : decide (V.bl a = V.bl b) = (a == b) := dec_bl
theorem lt_le_ne (r s : Rat) : decide (r < s) = (!decide (r = s) && decide (r ≤ s)) := by
  by_cases h : r < s
  · have h1 : r ≤ s := Rat.le_of_lt h
    have h2 : r ≠ s := Rat.ne_of_lt h
    simp [h, h1, h2]
  · rw [decide_eq_false h]
    by_cases h2 : r = s
    · subst h2; simp
    · have h3 : ¬ r ≤ s := fun h4 => h (Rat.lt_of_le_of_ne h4 h2)
      simp [h3]
theorem over_mul (r s : Rat) : r * Rat.divInt s.den s.num = r / s := by
  have := Rat.inv_divInt s.num s.den
  rw [self_div] at this
  rw [← this, Rat.div_def]
section
variable {P : Program} {w : World} {K : PySem.W.Frag} {mg : Str → Option Value} {base : Heap}
def spTwoR : Sp := fun vs H Q _ => ∃ t u v t' u' v', vs = [.ref t, .ref t'] ∧ DrAt H t u v ∧ DrAt H t' u' v' ∧ ∀ H', Ex H H' → Q (.bl true) H'
abbrev NTwo : List Str := ["_law_one", "_law_other", "_law_near", "_law_far", "_law_left", "_law_right_here", "_law_minus", "_law_told", "_law_due", "_law_is_most_here", "_law_is_less", "_law_value"]
theorem scTwoR : FnScope NTwo ["_law_one", "_law_other"] (defScope sTwoR) := ⟨rfl, rfl, rfl, by decide +kernel, rfl, by decide +kernel, by decide +kernel⟩
theorem ok_twoR (L : LK P w K mg base) {f : Addr} {fd : FuncData} (F : Fun K "_law_two_right" "_law_two_right" sTwoR f fd) : FnG P w K mg base CX0 6 f fd ["_law_one", "_law_other"] spTwoR := by
  refine okG F scTwoR (fun vs H Q E h => ?_) (fun cdv A outer s H vs Q E gd hr h => ?_)
  · obtain ⟨t, u, v, t', u', v', rfl, _⟩ := h
    rfl
  · obtain ⟨t, u, v, t', u', v', rfl, ⟨ht, v0, hu, hv⟩, ⟨ht', v0', hu', hv'⟩, k⟩ := h
    have hr3 : Room 3 _ := hr.mono (by decide)
    have hr2 : Room 2 _ := hr.mono (by decide)
    have hr1 : Room 1 _ := hr.mono (by decide)
    refine ⟨_, pss_cons (ps_par (i := 2) (j := 3) (by rfl) scTwoR.nd rfl rfl (by decide) rfl rfl (pa_cons (pe_mk2 L.R hr3 (by rfl) (pa_cons (pe_ix ix_tup (pv 0) pe_int (fun _ _ => rfl)) (pa_cons (pe_ix ix_tup (pv 0) pe_int (fun _ _ => rfl)) pa_nil))) (pa_cons (pe_mk2 L.R hr3 (by rfl) (pa_cons (pe_ix ix_tup (pv 1) pe_int (fun _ _ => rfl)) (pa_cons (pe_ix ix_tup (pv 1) pe_int (fun _ _ => rfl)) pa_nil))) pa_nil)) (by rfl))
      (pss_cons (ps_par (i := 4) (j := 5) (by rfl) scTwoR.nd rfl rfl (by decide) rfl rfl (pa_cons (pe_df L.low hr (pa_cons (pe_ix ix_tup (pv 0) pe_int (fun _ _ => rfl)) (pa_cons (pe_ix ix_tup (pv 0) pe_int (fun _ _ => rfl)) pa_nil))) (pa_cons (pe_df L.low hr (pa_cons (pe_ix ix_tup (pv 1) pe_int (fun _ _ => rfl)) (pa_cons (pe_ix ix_tup (pv 1) pe_int (fun _ _ => rfl)) pa_nil))) pa_nil)) (by rfl))
      (pss_cons (ps_set (i := 6) scTwoR.nd rfl (Or.inl rfl) (pe_df L.low hr (pa_cons (pe_un un_neg (pe_ix ix_tup (pv 5) pe_int (fun _ _ => rfl))) (pa_cons (pe_ix ix_tup (pv 5) pe_int (fun _ _ => rfl)) pa_nil))))
      (pss_cons (ps_set (i := 7) scTwoR.nd rfl (Or.inl rfl) (pe_lst (pa_cons (pe_op (L.add.op hr) (pv 2) (pv 3)) (pa_cons (pe_op (L.sub.op hr) (pv 2) (pv 3)) (pa_cons (pe_op (L.mul.op hr) (pv 2) (pv 3)) pa_nil)))))
      (pss_cons (ps_if (pt_not (pt_val (pe_callB (cr_all rfl) (by rfl) L.N.all (by decide +kernel) (pa_cons (pe_lc (own := [("_law_value", 11)]) (g := gName 11) (tt := tYes) (te := tCB (rIsi K) (tCons (tVar 11) (tCons (tC (.ref L.R.C)) tNil))) rfl scTwoR.nd (pi_list (pv 7)) (blkOk_by (N := NTwo) (sc := defScope sTwoR) (by decide +kernel)) (fun _ _ _ _ _ => pg_name (i := 11) scTwoR.nd rfl (Or.inl rfl)) (fun _ _ _ _ _ => pts_nil)
          (fun _ _ _ _ _ => by exact pe_callB call_isi (by rfl) L.R.T.isi (by decide +kernel) (pa_cons (pv 11) (pa_cons (pe_glob (v := .ref L.R.C) (by rfl) L.R.T.mgC rfl) pa_nil)))) pa_nil)))) (pss_one ps_never) pss_nil)
      (pss_cons (ps_set (i := 8) scTwoR.nd rfl (Or.inl rfl) (pe_lst (pa_cons (pe_df L.plus hr (pa_cons (pv 4) (pa_cons (pv 5) pa_nil))) (pa_cons (pe_df L.plus hr (pa_cons (pv 4) (pa_cons (pv 6) pa_nil))) (pa_cons (pe_df L.times hr (pa_cons (pv 4) (pa_cons (pv 5) pa_nil))) pa_nil)))))
      (pss_cons (ps_if (pt_cmpR (op_neD hr.units) (pe_lc (own := [("_law_value", 11)]) (g := gName 11) (tt := tYes) rfl scTwoR.nd (pi_list (pv 7)) (blkOk_by (N := NTwo) (sc := defScope sTwoR) (by decide +kernel)) (fun _ _ _ _ _ => pg_name (i := 11) scTwoR.nd rfl (Or.inl rfl)) (fun _ _ _ _ _ => pts_nil)
          (fun _ _ _ _ _ => by exact pe_df L.pair hr (pa_cons (pv 11) pa_nil))) (pv 8) (nomark _)) (pss_one ps_never) pss_nil)
      (pss_cons (ps_if (PW.pt (pw_or (pt_cmpR op_ne (pe_cmpR (op_eqOwn L.eq.F hr1 L.eq.b L.eq.m.at_ L.eq.m.fn L.siC (E := E0)) (pv 2) (pv 3) (nomark _)) (pe_cmpR (op_eqD hr.units) (pv 4) (pv 5) (nomark _)) (nomark _))
          (pw_or1 (pt_cmpR op_eq (pe_cmpR (op_neOwn L.eq.F hr2 L.eq.b L.ne L.R.T.hmo L.eq.m.at_ L.eq.m.fn (E := E0)) (pv 2) (pv 3) (nomark _)) (pe_cmpR (op_eqD hr.units) (pv 4) (pv 5) (nomark _)) (nomark _))))) (pss_one ps_never) pss_nil)
      (pss_cons (ps_par (i := 9) (j := 10) (by rfl) scTwoR.nd rfl rfl (by decide) rfl rfl (pa_cons (pe_df L.isMost hr (pa_cons (pv 4) (pa_cons (pv 5) pa_nil))) (pa_cons (pe_and (pe_cmpR (op_neD hr.units) (pv 4) (pv 5) (nomark _)) (pe_one (pe_df L.isMost hr (pa_cons (pv 4) (pa_cons (pv 5) pa_nil))))) pa_nil)) (by rfl))
      (pss_cons (ps_if (pt_cmpR op_ne (pe_callB (cr_reprD gd hr) (by rfl) L.N.repr (by decide +kernel) (pa_cons (pe_lst (pa_cons (pe_mt1 L.most hr (pv 2) (pv 3)) (pa_cons (pe_methK (pv 2) L.R.T.cl L.below.m L.below.F hr L.belowK pass0 (pv 3)) pa_nil))) pa_nil)) (pe_callB (cr_reprD gd hr) (by rfl) L.N.repr (by decide +kernel) (pa_cons (pe_lst (pa_cons (pv 9) (pa_cons (pv 10) pa_nil))) pa_nil)) (nomark _)) (pss_one ps_never) pss_nil)
      (pss_cons (ps_if (pt_cmpR op_ne (pe_ix ix_tup (pv 5) pe_int (fun _ _ => rfl)) pe_int (nomark _))
          (pss_cons (ps_if (pt_cmpR (op_neD hr.units) (pe_df L.pair hr (pa_cons (pe_mt1 L.over hr (pv 2) (pv 3)) pa_nil)) (pe_df L.times hr (pa_cons (pv 4) (pa_cons (pe_df L.low hr (pa_cons (pe_ix ix_tup (pv 5) pe_int (fun _ _ => rfl)) (pa_cons (pe_ix ix_tup (pv 5) pe_int (fun _ _ => rfl)) pa_nil))) pa_nil))) (nomark _)) (pss_one ps_never) pss_nil)
          (pss_one (ps_if (pt_not (pt_val (pe_isR L (by rfl) (by rfl) (pa_cons (pe_mt1 L.over hr (pv 2) (pv 3)) (pa_cons (pe_glob (v := .ref L.R.C) (by rfl) L.R.T.mgC rfl) pa_nil))))) (pss_one ps_never) pss_nil))) pss_nil)
      (pss_one (ps_ret (pe_cmpR (op_eqD hr.units) (pe_lst (pa_cons (pe_df L.pair hr (pa_cons (pv 2) pa_nil)) (pa_cons (pe_df L.pair hr (pa_cons (pv 3) pa_nil)) pa_nil))) (pe_lst (pa_cons (pv 4) (pa_cons (pv 5) pa_nil))) (nomark _)))))))))))))), ?_⟩
    have sz1 : Sz 52 (Rat.divInt u v) := Sz.low hu hv v0
    have sz2 : Sz 52 (Rat.divInt u' v') := Sz.low hu' hv' v0'
    have q9 : v.natAbs < 2 ^ 9000 := lt_more hv (by decide)
    have q9' : v'.natAbs < 2 ^ 9000 := lt_more hv' (by decide)
    generalize hr0 : Rat.divInt u v = r at sz1
    generalize hs0 : Rat.divInt u' v' = s' at sz2
    refine ⟨_, rfl, t, _, _, _, rfl, rfl, SqT.of ht, atI_nat (j := 0) rfl, _, rfl, t, _, _, _, rfl, rfl, SqT.of ht, atI_nat (j := 1) rfl, fun a da xa xda _ => ⟨a, da, u, v, rfl, v0, q9, upd_same, fun H1 h1 => ⟨rfl, ?_⟩⟩⟩
    obtain ⟨e1, ha⟩ := made_ex xa xda h1
    have ht1 := e1 _ _ ht
    have ht1' := e1 _ _ ht'
    refine ⟨_, rfl, t', _, _, _, rfl, rfl, SqT.of ht1', atI_nat (j := 0) rfl, _, rfl, t', _, _, _, rfl, rfl, SqT.of ht1', atI_nat (j := 1) rfl, fun b db xb xdb _ => ⟨b, db, u', v', rfl, v0', q9', upd_same, fun H2 h2 => ⟨rfl, _, _, rfl, ?_⟩⟩⟩
    obtain ⟨e2, hb⟩ := made_ex xb xdb h2
    rw [hr0] at ha
    rw [hs0] at hb
    have ht2 := e2 _ _ ht1
    have ht2' := e2 _ _ ht1'
    refine ⟨_, rfl, t, _, _, _, rfl, rfl, SqT.of ht2, atI_nat (j := 0) rfl, _, rfl, t, _, _, _, rfl, rfl, SqT.of ht2, atI_nat (j := 1) rfl, u, v, 52, rfl, v0, hu, hv, by decide, fun p H3 e3 hp => ?_⟩
    have ht3' := e3 _ _ ht2'
    refine ⟨_, rfl, t', _, _, _, rfl, rfl, SqT.of ht3', atI_nat (j := 0) rfl, _, rfl, t', _, _, _, rfl, rfl, SqT.of ht3', atI_nat (j := 1) rfl, u', v', 52, rfl, v0', hu', hv', by decide, fun q H4 e4 hq => ⟨_, _, rfl, ?_⟩⟩
    rw [hr0] at hp
    rw [hs0] at hq
    refine ⟨_, rfl, q, _, _, _, rfl, rfl, SqT.of hq, atI_nat (j := 0) rfl, _, rfl, _, rfl, q, _, _, _, rfl, rfl, SqT.of hq, atI_nat (j := 1) rfl, -s'.num, (s'.den : Int), 52, rfl, dz s', (by rw [Int.natAbs_neg]; exact sz2.num), sz2.den, by decide, fun m H5 e5 hm => ?_⟩
    rw [neg_eq] at hm
    have ha5 := ha.mono (((e2.trans e3).trans e4).trans e5)
    have hb5 := hb.mono ((e3.trans e4).trans e5)
    have hp5 := hp.mono (e4.trans e5)
    have hq5 := hq.mono e5
    refine ⟨_, rfl, _, rfl, a, r, s', 52, 52, rfl, ha5, .inr ⟨b, rfl, hb5⟩, sz1, sz2, by decide, fun c1 H6 e6 hc1 => ?_⟩
    refine ⟨_, rfl, _, rfl, a, r, s', 52, 52, rfl, ha5.mono e6, .inr ⟨b, rfl, hb5.mono e6⟩, sz1, sz2, by decide, fun c2 H7 e7 hc2 => ?_⟩
    refine ⟨_, rfl, _, rfl, a, r, s', 52, 52, rfl, ha5.mono (e6.trans e7), .inr ⟨b, rfl, hb5.mono (e6.trans e7)⟩, sz1, sz2, by decide, fun c3 H8 e8 hc3 => ?_⟩
    refine ⟨(by show 3 ≤ sizeLine; decide), fun l hl => ?_⟩
    have e9 : Ex H8 (upd H8 l (.lst [.ref c1, .ref c2, .ref c3])) := Evl.Ex.new hl
    have hl9 : upd H8 l (.lst [.ref c1, .ref c2, .ref c3]) l = some (.lst [.ref c1, .ref c2, .ref c3]) := upd_same
    generalize upd H8 l (.lst [.ref c1, .ref c2, .ref c3]) = H9 at e9 hl9 ⊢
    have hc1' : RtAt L.R.C H9 c1 (r + s') := RtAt.mono hc1 ((e7.trans e8).trans e9)
    have hc2' : RtAt L.R.C H9 c2 (r - s') := RtAt.mono hc2 (e8.trans e9)
    have hc3' : RtAt L.R.C H9 c3 (r * s') := RtAt.mono hc3 e9
    have e59 := ((e6.trans e7).trans e8).trans e9
    have ha9 := ha5.mono e59
    have hb9 := hb5.mono e59
    have hp9 := hp5.mono e59
    have hq9 := hq5.mono e59
    have hm9 := hm.mono e59
    have e09 : Ex H H9 := (((((e1.trans e2).trans e3).trans e4).trans e5)).trans e59
    have elem : ∀ (i : Nat) (x : V), [V.ref c1, V.ref c2, V.ref c3][i]? = some x → ∃ c y, x = .ref c ∧ [r + s', r - s', r * s'][i]? = some y ∧ RtAt L.R.C H9 c y := by
      intro i x hx
      match i, hx with
      | 0, hx => exact ⟨c1, _, by simpa using hx.symm, rfl, hc1'⟩
      | 1, hx => exact ⟨c2, _, by simpa using hx.symm, rfl, hc2'⟩
      | 2, hx => exact ⟨c3, _, by simpa using hx.symm, rfl, hc3'⟩
      | i + 3, hx => simp at hx
    -- all([isinstance(..) ..])
    refine ⟨_, rfl, l, rfl, ⟨_, SqL.of hl9⟩, fun D hD => lc_yes (K := K) (a := l) (xs := [.ref c1, .ref c2, .ref c3]) (fun i H' => Ex H9 H' ∧ H' D = some (.lst (List.replicate i (.bl true)))) ⟨Evl.Ex.new hD, upd_same⟩ (fun i H' _ h => SqL.of (h.1 _ _ hl9)) ?_ ?_⟩
    · rintro i x H' hx ⟨e, hd⟩
      have hi : i < 3 := (List.getElem?_eq_some_iff.mp hx).1
      obtain ⟨c, y, rfl, _, hc⟩ := elem i x hx
      refine ⟨_, rfl, _, _, _, _, true, rfl, .own _, tyR L.R.T (hc.mono e), L.R.T.kC, List.replicate i (.bl true), hd, (by rw [List.length_replicate]; exact small1000 (by omega)), Evl.Ex.mut e hD, ?_⟩
      rw [upd_same, List.replicate_succ']
    · rintro H10 ⟨e10, hd10⟩
      refine ⟨D, [true, true, true], rfl, SqL.of hd10, true, rfl, iteF ?_⟩
      have ha10 := ha9.mono e10
      have hb10 := hb9.mono e10
      have hp10 := hp9.mono e10
      have hq10 := hq9.mono e10
      -- due
      refine ⟨_, rfl, _, rfl, p, q, r, s', 52, 52, rfl, hp10, hq10, sz1, sz2, by decide, fun d1 H11 e11 hd1 => ?_⟩
      refine ⟨_, rfl, _, rfl, p, m, r, -s', 52, 52, rfl, hp10.mono e11, hm9.mono (e10.trans e11), sz1, sz2.neg, by decide, fun d2 H12 e12 hd2 => ?_⟩
      refine ⟨_, rfl, _, rfl, p, q, r, s', 52, 52, rfl, hp10.mono (e11.trans e12), hq10.mono (e11.trans e12), sz1, sz2, by decide, fun d3 H13 e13 hd3 => ?_⟩
      refine ⟨(by show 3 ≤ sizeLine; decide), fun ld hld => ?_⟩
      have e14 : Ex H13 (upd H13 ld (.lst [.ref d1, .ref d2, .ref d3])) := Evl.Ex.new hld
      have hl14 : upd H13 ld (.lst [.ref d1, .ref d2, .ref d3]) ld = some (.lst [.ref d1, .ref d2, .ref d3]) := upd_same
      generalize upd H13 ld (.lst [.ref d1, .ref d2, .ref d3]) = H14 at e14 hl14 ⊢
      have hd1' : PrAt H14 d1 (r + s') := PrAt.mono hd1 ((e12.trans e13).trans e14)
      have hd2' : PrAt H14 d2 (r - s') := by
        rw [Rat.sub_eq_add_neg]
        exact PrAt.mono hd2 (e13.trans e14)
      have hd3' : PrAt H14 d3 (r * s') := PrAt.mono hd3 e14
      have e1014 := ((e11.trans e12).trans e13).trans e14
      have e914 := e10.trans e1014
      have hl9' := e914 _ _ hl9
      -- [pair(..) ..] != due
      refine ⟨_, rfl, l, rfl, ⟨_, SqL.of hl9'⟩, fun D2 hD2 => lc_yes (K := K) (a := l) (xs := [.ref c1, .ref c2, .ref c3]) (fun i H' => Ex H14 H' ∧ ∃ ts, PrsAt H' D2 ts ([r + s', r - s', r * s'].take i)) ⟨Evl.Ex.new hD2, [], upd_same, rfl, fun i t h => by simp at h⟩ (fun i H' _ h => SqL.of (h.1 _ _ hl9')) ?_ ?_⟩
      · rintro i x H' hx ⟨e, ts, hts⟩
        obtain ⟨c, y, rfl, hy, hc⟩ := elem i x hx
        refine ⟨_, rfl, _, y, rfl, .inr ⟨c, rfl, hc.mono (e914.trans e)⟩, fun tn H'' e'' htn => ⟨ts.map V.ref, e'' _ _ hts.1, ?_, Evl.Ex.mut (e.trans e'') hD2, ts ++ [tn], ?_⟩⟩
        · have h1 := hts.2.1
          have h2 : ([r + s', r - s', r * s'].take i).length ≤ 3 := Nat.le_trans (List.length_take_le' ..) (Nat.le_refl _)
          rw [List.length_map]
          exact small1000 (by omega)
        · rw [List.take_add_one, hy]
          exact hts.snoc e'' htn
      · rintro H15 ⟨e15, ts, hts⟩
        have dpd : Dp K H15 (.ref ld) (.list [prD (r + s'), prD (r - s'), prD (r * s')]) := .lst (SqL.of (e15 _ _ hl14)) (.cons (dp_pr (hd1'.mono e15)) (.cons (dp_pr (hd2'.mono e15)) (.cons (dp_pr (hd3'.mono e15)) .nil)))
        refine ⟨_, rfl, _, _, dp_prs hts, dpd, rfl, rfl, _, rfl, ?_⟩
        have ev : PyData.eqv (.list ([r + s', r - s', r * s'].map prD)) (.list [prD (r + s'), prD (r - s'), prD (r * s')]) = true := eqv_self (d := .list [prD (r + s'), prD (r - s'), prD (r * s')]) rfl
        have ev' : PyData.eqv (.list (([r + s', r - s', r * s'].take [V.ref c1, V.ref c2, V.ref c3].length).map prD)) (.list [prD (r + s'), prD (r - s'), prD (r * s')]) = true := ev
        rw [ev']
        refine iteF ?_
        have e915 := e914.trans e15
        have ha15 := ha9.mono e915
        have hb15 := hb9.mono e915
        have hp15 := hp9.mono e915
        have hq15 := hq9.mono e915
        obtain ⟨da15, ha15'⟩ := id ha15
        obtain ⟨db15, hb15'⟩ := id hb15
        -- (near == far) != (left == right) or (near != far) == (left == right)
        refine ⟨_, rfl, _, rfl, a, da15, _, rfl, ha15', .inr ⟨b, db15, _, rfl, hb15'⟩, a, _, r, rfl, ha15, .inr ⟨b, s', rfl, hb15, ?_⟩⟩
        refine ⟨_, rfl, _, rfl, prD r, prD s', dp_pr hp15, dp_pr hq15, sh_pr _, sh_pr _, rfl, _, rfl, ?_⟩
        rw [eqv_pr, dec_bl', beq_self_eq_true]
        refine iteF ?_
        refine ⟨_, rfl, _, rfl, a, b, da15, db15, _, _, rfl, rfl, ha15', hb15', a, _, r, rfl, ha15, .inr ⟨b, s', rfl, hb15, _, rfl, ?_⟩⟩
        refine ⟨_, rfl, _, rfl, prD r, prD s', dp_pr hp15, dp_pr hq15, sh_pr _, sh_pr _, rfl, _, rfl, ?_⟩
        rw [eqv_pr, dec_bl', (by cases decide (r = s') <;> rfl : ((!decide (r = s')) == decide (r = s')) = false)]
        refine iteF ?_
        -- is_most_here, is_less
        refine ⟨_, rfl, _, rfl, p, q, r, s', 52, 52, rfl, hp15, hq15, sz1, sz2, by decide, ?_⟩
        refine ⟨_, rfl, _, rfl, prD r, prD s', dp_pr hp15, dp_pr hq15, sh_pr _, sh_pr _, _, rfl, ?_⟩
        rw [eqv_pr]
        have key := lt_le_ne r s'
        cases hE : decide (r = s') with
        | true =>
          have fin : ∀ Hx, Ex H Hx → RtAt L.R.C Hx a r → RtAt L.R.C Hx b s' → PrAt Hx p r → PrAt Hx q s' → tRet (tOp (rEqD K) (tLst (tCons (tCall (spPair L.R.C) [] E0 (tCons (tVar 2) tNil)) (tCons (tCall (spPair L.R.C) [] E0 (tCons (tVar 3) tNil)) tNil))) (tLst (tCons (tVar 4) (tCons (tVar 5) tNil))))
              { nx := fun _ H' => Q .non H', rt := Q } [some (.ref t), some (.ref t'), some (.ref a), some (.ref b), some (.ref p), some (.ref q), some (.ref m), some (.ref l), some (.ref ld), some (.bl (decide (r ≤ s'))), some (.bl false), none] Hx := by
            intro Hx eX hax hbx hpx hqx
            refine ⟨_, rfl, _, _, rfl, .inr ⟨a, rfl, hax⟩, fun w1 Hy ey hw1 => ?_⟩
            refine ⟨_, rfl, _, _, rfl, .inr ⟨b, rfl, hbx.mono ey⟩, fun w2 Hz ez hw2 => ?_⟩
            refine ⟨(by show 2 ≤ sizeLine; decide), fun la hla => ?_⟩
            have g1 : Ex Hz (upd Hz la (.lst [.ref w1, .ref w2])) := Evl.Ex.new hla
            have g2 : upd Hz la (.lst [.ref w1, .ref w2]) la = some (.lst [.ref w1, .ref w2]) := upd_same
            generalize upd Hz la (.lst [.ref w1, .ref w2]) = Hu at g1 g2 ⊢
            refine ⟨_, rfl, _, rfl, (by show 2 ≤ sizeLine; decide), fun lb hlb => ?_⟩
            have g3 : Ex Hu (upd Hu lb (.lst [.ref p, .ref q])) := Evl.Ex.new hlb
            have g4 : upd Hu lb (.lst [.ref p, .ref q]) lb = some (.lst [.ref p, .ref q]) := upd_same
            generalize upd Hu lb (.lst [.ref p, .ref q]) = Hv at g3 g4 ⊢
            have gA := (ey.trans ez).trans (g1.trans g3)
            refine ⟨.list [prD r, prD s'], .list [prD r, prD s'], .lst (SqL.of (g3 _ _ g2)) (.cons (dp_pr (hw1.mono (ez.trans (g1.trans g3)))) (.cons (dp_pr (hw2.mono (g1.trans g3))) .nil)), .lst (SqL.of g4) (.cons (dp_pr (hpx.mono gA)) (.cons (dp_pr (hqx.mono gA)) .nil)), rfl, rfl, ?_⟩
            rw [eqv_self (d := .list [prD r, prD s']) rfl]
            exact k _ (eX.trans gA)
          refine iteF ⟨_, _, rfl, ?_⟩
          have kz : decide (r < s') = false := by rw [key, hE]; rfl
          refine ⟨_, rfl, a, da15, _, rfl, ha15', pf_no _ _ (by decide +kernel) (by decide +kernel), _, rfl, a, _, r, s', 52, 52, rfl, ha15, .inr ⟨b, rfl, hb15⟩, sz1, sz2, by decide, fun H16 e16 => ?_⟩
          have ha16 := ha15.mono e16
          have hb16 := hb15.mono e16
          obtain ⟨da16, ha16'⟩ := id ha16
          refine ⟨_, rfl, a, da16, _, rfl, ha16', pf_no _ _ (by decide +kernel) (by decide +kernel), _, rfl, rfl, a, _, r, s', 52, 52, rfl, ha16, .inr ⟨b, rfl, hb16⟩, sz1, sz2, by decide, fun H17 e17 => ?_⟩
          refine ⟨(by show 2 ≤ sizeLine; decide), fun lr hlr => ?_⟩
          dsimp only
          rw [kz]
          have e18 : Ex H17 (upd H17 lr (.lst [.bl (decide (r ≤ s')), .bl false])) := Evl.Ex.new hlr
          have hl18 : upd H17 lr (.lst [.bl (decide (r ≤ s')), .bl false]) lr = some (.lst [.bl (decide (r ≤ s')), .bl false]) := upd_same
          generalize upd H17 lr (.lst [.bl (decide (r ≤ s')), .bl false]) = H18 at e18 hl18 ⊢
          have lv := leaves_show (leaf2 (x := decide (r ≤ s')) (y := false)) (by show 2 ≤ 100; decide)
          refine ⟨lr, _, rfl, .lst (SqL.of hl18) (.cons (.bl _) (.cons (.bl _) .nil)), lv.1, lv.2.1, lv.2.2.1, lv.2.2.2, ?_⟩
          refine ⟨_, rfl, _, rfl, (by show 2 ≤ sizeLine; decide), fun ls hls => ?_⟩
          have e19 : Ex H18 (upd H18 ls (.lst [.bl (decide (r ≤ s')), .bl false])) := Evl.Ex.new hls
          have hl19 : upd H18 ls (.lst [.bl (decide (r ≤ s')), .bl false]) ls = some (.lst [.bl (decide (r ≤ s')), .bl false]) := upd_same
          generalize upd H18 ls (.lst [.bl (decide (r ≤ s')), .bl false]) = H19 at e19 hl19 ⊢
          refine ⟨ls, _, rfl, .lst (SqL.of hl19) (.cons (.bl _) (.cons (.bl _) .nil)), lv.1, lv.2.1, lv.2.2.1, lv.2.2.2, rfl, _, rfl, iteNS rfl ?_⟩
          have e1519 := ((e16.trans e17).trans e18).trans e19
          have ha19 := ha15.mono e1519
          have hb19 := hb15.mono e1519
          have hp19 := hp15.mono e1519
          have hq19 := hq15.mono e1519
          obtain ⟨da19, ha19'⟩ := id ha19
          have eA := (e09.trans e915).trans e1519
          -- right[0] != 0
          refine ⟨_, rfl, q, _, _, _, rfl, rfl, SqT.of hq19, atI_nat (j := 0) rfl, rfl, _, rfl, ?_⟩
          rw [dec_i]
          cases hz : decide (s'.num = 0) with
          | false =>
            have n0 : s'.num ≠ 0 := of_decide_eq_false hz
            have s0 : s' ≠ 0 := fun h => n0 (by rw [h]; rfl)
            refine iteT ?_
            refine ⟨_, rfl, a, da19, _, rfl, ha19', pf_no _ _ (by decide +kernel) (by decide +kernel), _, rfl, a, _, r, s', 52, 52, rfl, ha19, .inr ⟨b, rfl, hb19⟩, s0, sz1, sz2, by decide, fun o H20 e20 ho => ?_⟩
            refine ⟨_, _, rfl, .inr ⟨o, rfl, ho⟩, fun to H21 e21 hto => ?_⟩
            have hq21 := hq19.mono (e20.trans e21)
            have hp21 := hp19.mono (e20.trans e21)
            refine ⟨_, rfl, _, rfl, q, _, _, _, rfl, rfl, SqT.of hq21, atI_nat (j := 1) rfl, _, rfl, q, _, _, _, rfl, rfl, SqT.of hq21, atI_nat (j := 0) rfl, (s'.den : Int), s'.num, 52, rfl, n0, sz2.den, sz2.num, by decide, fun tl H22 e22 htl => ?_⟩
            refine ⟨p, tl, r, _, 52, 52, rfl, hp21.mono e22, htl, sz1, Sz.low sz2.den sz2.num n0, by decide, fun tt H23 e23 htt => ?_⟩
            have htt' : PrAt H23 tt (r / s') := by rw [← over_mul]; exact htt
            refine ⟨prD (r / s'), prD (r / s'), dp_pr (hto.mono (e22.trans e23)), dp_pr htt', sh_pr _, sh_pr _, _, rfl, ?_⟩
            rw [eqv_pr, decide_eq_true rfl]
            refine iteF ?_
            have e1923 := ((e20.trans e21).trans e22).trans e23
            have ha23 := ha19.mono e1923
            have hb23 := hb19.mono e1923
            obtain ⟨da23, ha23'⟩ := id ha23
            refine ⟨_, rfl, a, da23, _, rfl, ha23', pf_no _ _ (by decide +kernel) (by decide +kernel), _, rfl, a, _, r, s', 52, 52, rfl, ha23, .inr ⟨b, rfl, hb23⟩, s0, sz1, sz2, by decide, fun o2 H24 e24 ho2 => ?_⟩
            refine ⟨_, _, _, _, true, rfl, .own _, tyR L.R.T ho2, L.R.T.kC, true, rfl, iteF ?_⟩
            have ef := e1923.trans e24
            exact fin H24 (eA.trans ef) (ha19.mono ef) (hb19.mono ef) (hp19.mono ef) (hq19.mono ef)
          | true =>
            refine iteF ?_
            exact fin H19 eA ha19 hb19 hp19 hq19
        | false =>
          have fin : ∀ Hx, Ex H Hx → RtAt L.R.C Hx a r → RtAt L.R.C Hx b s' → PrAt Hx p r → PrAt Hx q s' → tRet (tOp (rEqD K) (tLst (tCons (tCall (spPair L.R.C) [] E0 (tCons (tVar 2) tNil)) (tCons (tCall (spPair L.R.C) [] E0 (tCons (tVar 3) tNil)) tNil))) (tLst (tCons (tVar 4) (tCons (tVar 5) tNil))))
              { nx := fun _ H' => Q .non H', rt := Q } [some (.ref t), some (.ref t'), some (.ref a), some (.ref b), some (.ref p), some (.ref q), some (.ref m), some (.ref l), some (.ref ld), some (.bl (decide (r ≤ s'))), some (.bl (decide (r ≤ s'))), none] Hx := by
            intro Hx eX hax hbx hpx hqx
            refine ⟨_, rfl, _, _, rfl, .inr ⟨a, rfl, hax⟩, fun w1 Hy ey hw1 => ?_⟩
            refine ⟨_, rfl, _, _, rfl, .inr ⟨b, rfl, hbx.mono ey⟩, fun w2 Hz ez hw2 => ?_⟩
            refine ⟨(by show 2 ≤ sizeLine; decide), fun la hla => ?_⟩
            have g1 : Ex Hz (upd Hz la (.lst [.ref w1, .ref w2])) := Evl.Ex.new hla
            have g2 : upd Hz la (.lst [.ref w1, .ref w2]) la = some (.lst [.ref w1, .ref w2]) := upd_same
            generalize upd Hz la (.lst [.ref w1, .ref w2]) = Hu at g1 g2 ⊢
            refine ⟨_, rfl, _, rfl, (by show 2 ≤ sizeLine; decide), fun lb hlb => ?_⟩
            have g3 : Ex Hu (upd Hu lb (.lst [.ref p, .ref q])) := Evl.Ex.new hlb
            have g4 : upd Hu lb (.lst [.ref p, .ref q]) lb = some (.lst [.ref p, .ref q]) := upd_same
            generalize upd Hu lb (.lst [.ref p, .ref q]) = Hv at g3 g4 ⊢
            have gA := (ey.trans ez).trans (g1.trans g3)
            refine ⟨.list [prD r, prD s'], .list [prD r, prD s'], .lst (SqL.of (g3 _ _ g2)) (.cons (dp_pr (hw1.mono (ez.trans (g1.trans g3)))) (.cons (dp_pr (hw2.mono (g1.trans g3))) .nil)), .lst (SqL.of g4) (.cons (dp_pr (hpx.mono gA)) (.cons (dp_pr (hqx.mono gA)) .nil)), rfl, rfl, ?_⟩
            rw [eqv_self (d := .list [prD r, prD s']) rfl]
            exact k _ (eX.trans gA)
          refine iteT ⟨_, rfl, _, rfl, p, q, r, s', 52, 52, rfl, hp15, hq15, sz1, sz2, by decide, _, _, rfl, ?_⟩
          have kz : decide (r < s') = (decide (r ≤ s')) := by rw [key, hE]; rfl
          refine ⟨_, rfl, a, da15, _, rfl, ha15', pf_no _ _ (by decide +kernel) (by decide +kernel), _, rfl, a, _, r, s', 52, 52, rfl, ha15, .inr ⟨b, rfl, hb15⟩, sz1, sz2, by decide, fun H16 e16 => ?_⟩
          have ha16 := ha15.mono e16
          have hb16 := hb15.mono e16
          obtain ⟨da16, ha16'⟩ := id ha16
          refine ⟨_, rfl, a, da16, _, rfl, ha16', pf_no _ _ (by decide +kernel) (by decide +kernel), _, rfl, rfl, a, _, r, s', 52, 52, rfl, ha16, .inr ⟨b, rfl, hb16⟩, sz1, sz2, by decide, fun H17 e17 => ?_⟩
          refine ⟨(by show 2 ≤ sizeLine; decide), fun lr hlr => ?_⟩
          dsimp only
          rw [kz]
          have e18 : Ex H17 (upd H17 lr (.lst [.bl (decide (r ≤ s')), .bl (decide (r ≤ s'))])) := Evl.Ex.new hlr
          have hl18 : upd H17 lr (.lst [.bl (decide (r ≤ s')), .bl (decide (r ≤ s'))]) lr = some (.lst [.bl (decide (r ≤ s')), .bl (decide (r ≤ s'))]) := upd_same
          generalize upd H17 lr (.lst [.bl (decide (r ≤ s')), .bl (decide (r ≤ s'))]) = H18 at e18 hl18 ⊢
          have lv := leaves_show (leaf2 (x := decide (r ≤ s')) (y := (decide (r ≤ s')))) (by show 2 ≤ 100; decide)
          refine ⟨lr, _, rfl, .lst (SqL.of hl18) (.cons (.bl _) (.cons (.bl _) .nil)), lv.1, lv.2.1, lv.2.2.1, lv.2.2.2, ?_⟩
          refine ⟨_, rfl, _, rfl, (by show 2 ≤ sizeLine; decide), fun ls hls => ?_⟩
          have e19 : Ex H18 (upd H18 ls (.lst [.bl (decide (r ≤ s')), .bl (decide (r ≤ s'))])) := Evl.Ex.new hls
          have hl19 : upd H18 ls (.lst [.bl (decide (r ≤ s')), .bl (decide (r ≤ s'))]) ls = some (.lst [.bl (decide (r ≤ s')), .bl (decide (r ≤ s'))]) := upd_same
          generalize upd H18 ls (.lst [.bl (decide (r ≤ s')), .bl (decide (r ≤ s'))]) = H19 at e19 hl19 ⊢
          refine ⟨ls, _, rfl, .lst (SqL.of hl19) (.cons (.bl _) (.cons (.bl _) .nil)), lv.1, lv.2.1, lv.2.2.1, lv.2.2.2, rfl, _, rfl, iteNS rfl ?_⟩
          have e1519 := ((e16.trans e17).trans e18).trans e19
          have ha19 := ha15.mono e1519
          have hb19 := hb15.mono e1519
          have hp19 := hp15.mono e1519
          have hq19 := hq15.mono e1519
          obtain ⟨da19, ha19'⟩ := id ha19
          have eA := (e09.trans e915).trans e1519
          -- right[0] != 0
          refine ⟨_, rfl, q, _, _, _, rfl, rfl, SqT.of hq19, atI_nat (j := 0) rfl, rfl, _, rfl, ?_⟩
          rw [dec_i]
          cases hz : decide (s'.num = 0) with
          | false =>
            have n0 : s'.num ≠ 0 := of_decide_eq_false hz
            have s0 : s' ≠ 0 := fun h => n0 (by rw [h]; rfl)
            refine iteT ?_
            refine ⟨_, rfl, a, da19, _, rfl, ha19', pf_no _ _ (by decide +kernel) (by decide +kernel), _, rfl, a, _, r, s', 52, 52, rfl, ha19, .inr ⟨b, rfl, hb19⟩, s0, sz1, sz2, by decide, fun o H20 e20 ho => ?_⟩
            refine ⟨_, _, rfl, .inr ⟨o, rfl, ho⟩, fun to H21 e21 hto => ?_⟩
            have hq21 := hq19.mono (e20.trans e21)
            have hp21 := hp19.mono (e20.trans e21)
            refine ⟨_, rfl, _, rfl, q, _, _, _, rfl, rfl, SqT.of hq21, atI_nat (j := 1) rfl, _, rfl, q, _, _, _, rfl, rfl, SqT.of hq21, atI_nat (j := 0) rfl, (s'.den : Int), s'.num, 52, rfl, n0, sz2.den, sz2.num, by decide, fun tl H22 e22 htl => ?_⟩
            refine ⟨p, tl, r, _, 52, 52, rfl, hp21.mono e22, htl, sz1, Sz.low sz2.den sz2.num n0, by decide, fun tt H23 e23 htt => ?_⟩
            have htt' : PrAt H23 tt (r / s') := by rw [← over_mul]; exact htt
            refine ⟨prD (r / s'), prD (r / s'), dp_pr (hto.mono (e22.trans e23)), dp_pr htt', sh_pr _, sh_pr _, _, rfl, ?_⟩
            rw [eqv_pr, decide_eq_true rfl]
            refine iteF ?_
            have e1923 := ((e20.trans e21).trans e22).trans e23
            have ha23 := ha19.mono e1923
            have hb23 := hb19.mono e1923
            obtain ⟨da23, ha23'⟩ := id ha23
            refine ⟨_, rfl, a, da23, _, rfl, ha23', pf_no _ _ (by decide +kernel) (by decide +kernel), _, rfl, a, _, r, s', 52, 52, rfl, ha23, .inr ⟨b, rfl, hb23⟩, s0, sz1, sz2, by decide, fun o2 H24 e24 ho2 => ?_⟩
            refine ⟨_, _, _, _, true, rfl, .own _, tyR L.R.T ho2, L.R.T.kC, true, rfl, iteF ?_⟩
            have ef := e1923.trans e24
            exact fin H24 (eA.trans ef) (ha19.mono ef) (hb19.mono ef) (hp19.mono ef) (hq19.mono ef)
          | true =>
            refine iteF ?_
            exact fin H19 eA ha19 hb19 hp19 hq19
end
end K11
namespace K11
open PySem L2 GX KM
open Evl (Ex)
abbrev sWholeR : Stmt := top 25
section
variable {X : Cx} (L : LK X.prog X.w X.K X.mg X.base)
theorem op_radd (hr : Room 6 X.A) : OpR X (binaryOp .Add) (rNOwn L.R.C (spRBin L.R.C (· + ·)) E0) :=
  op_NOwn (op := .Add) L.radd.F hr L.radd.b L.add.sf L.add.at_ L.radd.m.at_ L.radd.m.fn L.sCi PySem.F.fills_int_add PySem.F.slot_int_add PySem.F.entry_int_add PySem.F.args_int_add_2 dec_add
theorem op_rsub (hr : Room 6 X.A) : OpR X (binaryOp .Sub) (rNOwn L.R.C (spRBin L.R.C (· - ·)) E0) :=
  op_NOwn (op := .Sub) L.rsub.F hr L.rsub.b L.sub.sf L.sub.at_ L.rsub.m.at_ L.rsub.m.fn L.sCi PySem.F.fills_int_sub PySem.F.slot_int_sub PySem.F.entry_int_sub PySem.F.args_int_sub_2 dec_sub
theorem op_rmul (hr : Room 6 X.A) : OpR X (binaryOp .Mult) (rNOwn L.R.C (spRBin L.R.C (· * ·)) E0) :=
  op_NOwn (op := .Mult) L.rmul.F hr L.rmul.b L.mul.sf L.mul.at_ L.rmul.m.at_ L.rmul.m.fn L.sCi PySem.F.fills_int_mul PySem.F.slot_int_mul PySem.F.entry_int_mul PySem.F.args_int_mul_2 dec_mul
end
section
variable {P : Program} {w : World} {K : PySem.W.Frag} {mg : Str → Option Value} {base : Heap}
def spWholeR : Sp := fun vs H Q _ => ∃ t u v n, vs = [.ref t, .int n] ∧ DrAt H t u v ∧ n.natAbs < 2 ^ 70 ∧ ∀ H', Ex H H' → Q (.bl true) H'
abbrev NWh : List Str := ["_law_one", "_law_number", "_law_near", "_law_left", "_law_right_here", "_law_told", "_law_due", "_law_value"]
theorem scWholeR : FnScope NWh ["_law_one", "_law_number"] (defScope sWholeR) := ⟨rfl, rfl, rfl, by decide +kernel, rfl, by decide +kernel, by decide +kernel⟩
theorem ok_wholeR (L : LK P w K mg base) {f : Addr} {fd : FuncData} (F : Fun K "_law_whole_right" "_law_whole_right" sWholeR f fd) : FnG P w K mg base CX0 7 f fd ["_law_one", "_law_number"] spWholeR := by
  refine okG F scWholeR (fun vs H Q E h => ?_) (fun cdv A outer s H vs Q E gd hr h => ?_)
  · obtain ⟨t, u, v, n, rfl, _⟩ := h
    rfl
  · obtain ⟨t, u, v, n, rfl, ⟨ht, v0, hu, hv⟩, hn, k⟩ := h
    have hr5 : Room 5 _ := hr.mono (by decide)
    have hr3 : Room 3 _ := hr.mono (by decide)
    have hr2 : Room 2 _ := hr.mono (by decide)
    have hr1 : Room 1 _ := hr.mono (by decide)
    refine ⟨_, pss_cons (ps_par3 (i := 2) (j := 3) (l := 4) (by rfl) scWholeR.nd rfl rfl rfl (by decide) (by decide) (by decide) rfl rfl rfl (pa_cons (pe_mk2 L.R hr3 (by rfl) (pa_cons (pe_ix ix_tup (pv 0) pe_int (fun _ _ => rfl)) (pa_cons (pe_ix ix_tup (pv 0) pe_int (fun _ _ => rfl)) pa_nil))) (pa_cons (pe_df L.low hr (pa_cons (pe_ix ix_tup (pv 0) pe_int (fun _ _ => rfl)) (pa_cons (pe_ix ix_tup (pv 0) pe_int (fun _ _ => rfl)) pa_nil))) (pa_cons (pe_tup (pa_cons (pv 1) (pa_cons pe_int pa_nil))) pa_nil))) (by rfl))
      (pss_cons (ps_set (i := 5) scWholeR.nd rfl (Or.inl rfl) (pe_lst (pa_cons (pe_op (L.add.op hr5) (pv 2) (pv 1)) (pa_cons (pe_op (op_radd L hr) (pv 1) (pv 2)) (pa_cons (pe_op (L.sub.op hr5) (pv 2) (pv 1)) (pa_cons (pe_op (op_rsub L hr) (pv 1) (pv 2)) (pa_cons (pe_op (L.mul.op hr5) (pv 2) (pv 1)) (pa_cons (pe_op (op_rmul L hr) (pv 1) (pv 2)) pa_nil))))))))
      (pss_cons (ps_set (i := 6) scWholeR.nd rfl (Or.inl rfl) (pe_lst (pa_cons (pe_df L.plus hr (pa_cons (pv 3) (pa_cons (pv 4) pa_nil))) (pa_cons (pe_df L.plus hr (pa_cons (pv 3) (pa_cons (pv 4) pa_nil))) (pa_cons (pe_df L.plus hr (pa_cons (pv 3) (pa_cons (pe_tup (pa_cons (pe_un un_neg (pv 1)) (pa_cons pe_int pa_nil))) pa_nil))) pa_nil)))))
      (pss_cons (ps_set (i := 6) scWholeR.nd rfl (Or.inl rfl) (pe_op op_cat (pv 6) (pe_lst (pa_cons (pe_df L.plus hr (pa_cons (pe_tup (pa_cons (pe_un un_neg (pe_ix ix_tup (pv 3) pe_int (fun _ _ => rfl))) (pa_cons (pe_ix ix_tup (pv 3) pe_int (fun _ _ => rfl)) pa_nil))) (pa_cons (pv 4) pa_nil))) (pa_cons (pe_df L.times hr (pa_cons (pv 3) (pa_cons (pv 4) pa_nil))) (pa_cons (pe_df L.times hr (pa_cons (pv 3) (pa_cons (pv 4) pa_nil))) pa_nil))))))
      (pss_cons (ps_if (PW.pt (pw_or (pt_cmpR (op_neD hr.units) (pe_lc (own := [("_law_value", 7)]) (g := gName 7) (tt := tYes) (te := tCall (spPair L.R.C) [] E0 (tCons (tVar 7) tNil)) rfl scWholeR.nd (pi_list (pv 5)) (blkOk_by (N := NWh) (sc := defScope sWholeR) (by decide +kernel)) (fun _ _ _ _ _ => pg_name (i := 7) scWholeR.nd rfl (Or.inl rfl)) (fun _ _ _ _ _ => pts_nil)
          (fun _ _ _ _ _ => by exact pe_df L.pair hr (pa_cons (pv 7) pa_nil))) (pv 6) (nomark _))
          (pw_or1 (pt_not (pt_val (pe_callB (cr_all rfl) (by rfl) L.N.all (by decide +kernel) (pa_cons (pe_lc (own := [("_law_value", 7)]) (g := gName 7) (tt := tYes) (te := tCB (rIsi K) (tCons (tVar 7) (tCons (tC (.ref L.R.C)) tNil))) rfl scWholeR.nd (pi_list (pv 5)) (blkOk_by (N := NWh) (sc := defScope sWholeR) (by decide +kernel)) (fun _ _ _ _ _ => pg_name (i := 7) scWholeR.nd rfl (Or.inl rfl)) (fun _ _ _ _ _ => pts_nil)
            (fun _ _ _ _ _ => by exact pe_callB call_isi (by rfl) L.R.T.isi (by decide +kernel) (pa_cons (pv 7) (pa_cons (pe_glob (v := .ref L.R.C) (by rfl) L.R.T.mgC rfl) pa_nil)))) pa_nil))))))) (pss_one ps_never) pss_nil)
      (pss_cons (ps_if (pt_cmpR op_ne (pe_callB (cr_reprD gd hr) (by rfl) L.N.repr (by decide +kernel) (pa_cons (pe_lst (pa_cons (pe_mt1 L.most hr (pv 2) (pv 1)) (pa_cons (pe_mt1 L.below hr (pv 2) (pv 1)) pa_nil))) pa_nil)) (pe_callB (cr_reprD gd hr) (by rfl) L.N.repr (by decide +kernel) (pa_cons (pe_lst (pa_cons (pe_df L.isMost hr (pa_cons (pv 3) (pa_cons (pv 4) pa_nil))) (pa_cons (pe_and (pe_cmpR (op_neD hr.units) (pv 3) (pv 4) (nomark _)) (pe_one (pe_df L.isMost hr (pa_cons (pv 3) (pa_cons (pv 4) pa_nil))))) pa_nil))) pa_nil)) (nomark _)) (pss_one ps_never) pss_nil)
      (pss_cons (ps_if (pt_cmpR op_ne (pv 1) pe_int (nomark _))
          (pss_cons (ps_if (pt_cmpR (op_neD hr.units) (pe_df L.pair hr (pa_cons (pe_methK (pv 2) L.R.T.cl L.over.m L.over.F hr5 L.overK pass0 (pv 1)) pa_nil)) (pe_df L.times hr (pa_cons (pv 3) (pa_cons (pe_df L.low hr (pa_cons pe_int (pa_cons (pv 1) pa_nil))) pa_nil))) (nomark _)) (pss_one ps_never) pss_nil)
          (pss_one (ps_if (pt_not (pt_val (pe_isR L (by rfl) (by rfl) (pa_cons (pe_mt1 L.over hr (pv 2) (pv 1)) (pa_cons (pe_glob (v := .ref L.R.C) (by rfl) L.R.T.mgC rfl) pa_nil))))) (pss_one ps_never) pss_nil))) pss_nil)
      (pss_one (ps_ret (pe_and (pe_cmpR op_isBl (pe_cmpR (op_eqOwn L.eq.F hr1 L.eq.b L.eq.m.at_ L.eq.m.fn L.siC (E := E0)) (pv 2) (pv 1) (nomark _)) pe_bl (nomark _)) (pe_one (pe_cmpR op_isBl (pe_cmpR (op_eqN L.eq.F hr1 L.eq.b L.eq.m.at_ L.eq.m.fn L.sCi (E := E0)) (pv 1) (pv 2) (nomark _)) pe_bl (nomark _)))))))))))), ?_⟩
    have sz1 : Sz 52 (Rat.divInt u v) := Sz.low hu hv v0
    have sz2 : Sz 70 (n : Rat) := Sz.int hn (by decide)
    have q9 : v.natAbs < 2 ^ 9000 := lt_more hv (by decide)
    generalize hr0 : Rat.divInt u v = r at sz1
    refine ⟨_, rfl, t, _, _, _, rfl, rfl, SqT.of ht, atI_nat (j := 0) rfl, _, rfl, t, _, _, _, rfl, rfl, SqT.of ht, atI_nat (j := 1) rfl, fun a da xa xda _ => ⟨a, da, u, v, rfl, v0, q9, upd_same, fun H1 h1 => ⟨rfl, ?_⟩⟩⟩
    obtain ⟨e1, ha⟩ := made_ex xa xda h1
    have ht1 := e1 _ _ ht
    refine ⟨_, rfl, t, _, _, _, rfl, rfl, SqT.of ht1, atI_nat (j := 0) rfl, _, rfl, t, _, _, _, rfl, rfl, SqT.of ht1, atI_nat (j := 1) rfl, u, v, 52, rfl, v0, hu, hv, by decide, fun p H2 e2 hp => ?_⟩
    rw [hr0] at ha hp
    refine ⟨_, rfl, (by show 2 ≤ sizeLine; decide), fun q hq0 => ⟨_, _, _, rfl, ?_⟩⟩
    have e3 : Ex H2 (upd H2 q (.tup [.int n, .int 1])) := Evl.Ex.new hq0
    have hq : PrAt (upd H2 q (.tup [.int n, .int 1])) q (n : Rat) := upd_same
    generalize upd H2 q (.tup [.int n, .int 1]) = H3 at e3 hq ⊢
    have ha3 := ha.mono (e2.trans e3)
    have hp3 := hp.mono e3
    have e03 := (e1.trans e2).trans e3
    have hI : ∀ Hx, NumV L.R.C Hx (.int n) (n : Rat) := fun _ => .inl ⟨n, rfl, rfl⟩
    -- told
    refine ⟨_, rfl, _, rfl, a, r, _, 52, 70, rfl, ha3, hI _, sz1, sz2, by decide, fun c1 H4 e4 hc1 => ?_⟩
    have ha4 := ha3.mono e4
    obtain ⟨da4, ha4'⟩ := id ha4
    refine ⟨_, rfl, _, rfl, n, a, da4, _, rfl, rfl, ha4', a, n, r, 52, 70, rfl, ha4, sz1, sz2, by decide, fun c2 H5 e5 hc2 => ?_⟩
    have ha5 := ha4.mono e5
    refine ⟨_, rfl, _, rfl, a, r, _, 52, 70, rfl, ha5, hI _, sz1, sz2, by decide, fun c3 H6 e6 hc3 => ?_⟩
    have ha6 := ha5.mono e6
    obtain ⟨da6, ha6'⟩ := id ha6
    refine ⟨_, rfl, _, rfl, n, a, da6, _, rfl, rfl, ha6', a, n, r, 52, 70, rfl, ha6, sz1, sz2, by decide, fun c4 H7 e7 hc4 => ?_⟩
    have ha7 := ha6.mono e7
    refine ⟨_, rfl, _, rfl, a, r, _, 52, 70, rfl, ha7, hI _, sz1, sz2, by decide, fun c5 H8 e8 hc5 => ?_⟩
    have ha8 := ha7.mono e8
    obtain ⟨da8, ha8'⟩ := id ha8
    refine ⟨_, rfl, _, rfl, n, a, da8, _, rfl, rfl, ha8', a, n, r, 52, 70, rfl, ha8, sz1, sz2, by decide, fun c6 H9 e9 hc6 => ?_⟩
    refine ⟨(by show 6 ≤ sizeLine; decide), fun l hl => ?_⟩
    have e10 : Ex H9 (upd H9 l (.lst [.ref c1, .ref c2, .ref c3, .ref c4, .ref c5, .ref c6])) := Evl.Ex.new hl
    have hl10 : upd H9 l (.lst [.ref c1, .ref c2, .ref c3, .ref c4, .ref c5, .ref c6]) l = some (.lst [.ref c1, .ref c2, .ref c3, .ref c4, .ref c5, .ref c6]) := upd_same
    generalize upd H9 l (.lst [.ref c1, .ref c2, .ref c3, .ref c4, .ref c5, .ref c6]) = H10 at e10 hl10 ⊢
    generalize hs0 : (n : Rat) = s' at sz2 hq hI hc1 hc2 hc3 hc4 hc5 hc6
    have hc1' : RtAt L.R.C H10 c1 (r + s') := RtAt.mono hc1 ((((e5.trans e6).trans e7).trans (e8.trans e9)).trans e10)
    have hc2' : RtAt L.R.C H10 c2 (s' + r) := RtAt.mono hc2 (((e6.trans e7).trans (e8.trans e9)).trans e10)
    have hc3' : RtAt L.R.C H10 c3 (r - s') := RtAt.mono hc3 ((e7.trans (e8.trans e9)).trans e10)
    have hc4' : RtAt L.R.C H10 c4 (s' - r) := RtAt.mono hc4 ((e8.trans e9).trans e10)
    have hc5' : RtAt L.R.C H10 c5 (r * s') := RtAt.mono hc5 (e9.trans e10)
    have hc6' : RtAt L.R.C H10 c6 (s' * r) := RtAt.mono hc6 e10
    have e310 := (((e4.trans e5).trans (e6.trans e7)).trans (e8.trans e9)).trans e10
    have ha10 := ha3.mono e310
    have hp10 := hp3.mono e310
    have hq10 := hq.mono e310
    have e010 := e03.trans e310
    have elem : ∀ (i : Nat) (x : V), [V.ref c1, V.ref c2, V.ref c3, V.ref c4, V.ref c5, V.ref c6][i]? = some x → ∃ c y, x = .ref c ∧ [r + s', s' + r, r - s', s' - r, r * s', s' * r][i]? = some y ∧ RtAt L.R.C H10 c y := by
      intro i x hx
      match i, hx with
      | 0, hx => exact ⟨c1, _, by simpa using hx.symm, rfl, hc1'⟩
      | 1, hx => exact ⟨c2, _, by simpa using hx.symm, rfl, hc2'⟩
      | 2, hx => exact ⟨c3, _, by simpa using hx.symm, rfl, hc3'⟩
      | 3, hx => exact ⟨c4, _, by simpa using hx.symm, rfl, hc4'⟩
      | 4, hx => exact ⟨c5, _, by simpa using hx.symm, rfl, hc5'⟩
      | 5, hx => exact ⟨c6, _, by simpa using hx.symm, rfl, hc6'⟩
      | i + 6, hx => simp at hx
    clear hc1 hc2 hc3 hc4 hc5 hc6 hc1' hc2' hc3' hc4' hc5' hc6' ha4 ha5 ha6 ha7 ha8 ha4' ha6' ha8' ha3 hp3
    -- due
    refine ⟨_, rfl, _, rfl, p, q, r, s', 52, 70, rfl, hp10, hq10, sz1, sz2, by decide, fun d1 H11 e11 hd1 => ?_⟩
    refine ⟨_, rfl, _, rfl, p, q, r, s', 52, 70, rfl, hp10.mono e11, hq10.mono e11, sz1, sz2, by decide, fun d2 H12 e12 hd2 => ?_⟩
    refine ⟨_, rfl, _, rfl, _, rfl, (by show 2 ≤ sizeLine; decide), fun m hm0 => ?_⟩
    have e13 : Ex H12 (upd H12 m (.tup [.int (-n), .int 1])) := Evl.Ex.new hm0
    have hm : PrAt (upd H12 m (.tup [.int (-n), .int 1])) m (-s') := by
      rw [← hs0]
      exact upd_same
    generalize upd H12 m (.tup [.int (-n), .int 1]) = H13 at e13 hm ⊢
    refine ⟨p, m, r, -s', 52, 70, rfl, hp10.mono ((e11.trans e12).trans e13), hm, sz1, sz2.neg, by decide, fun d3 H14 e14 hd3 => ?_⟩
    refine ⟨(by show 3 ≤ sizeLine; decide), fun l1 hl1 => ?_⟩
    have e15 : Ex H14 (upd H14 l1 (.lst [.ref d1, .ref d2, .ref d3])) := Evl.Ex.new hl1
    have hl15 : upd H14 l1 (.lst [.ref d1, .ref d2, .ref d3]) l1 = some (.lst [.ref d1, .ref d2, .ref d3]) := upd_same
    generalize upd H14 l1 (.lst [.ref d1, .ref d2, .ref d3]) = H15 at e15 hl15 ⊢
    have e1015 := ((e11.trans e12).trans (e13.trans e14)).trans e15
    have hp15 := hp10.mono e1015
    have hq15 := hq10.mono e1015
    refine ⟨_, rfl, _, rfl, p, _, _, _, rfl, rfl, SqT.of hp15, atI_nat (j := 0) rfl, _, rfl, _, rfl, p, _, _, _, rfl, rfl, SqT.of hp15, atI_nat (j := 1) rfl, (by show 2 ≤ sizeLine; decide), fun o ho0 => ?_⟩
    have e16 : Ex H15 (upd H15 o (.tup [.int (-r.num), .int (r.den : Int)])) := Evl.Ex.new ho0
    have ho : PrAt (upd H15 o (.tup [.int (-r.num), .int (r.den : Int)])) o (-r) := upd_same
    generalize upd H15 o (.tup [.int (-r.num), .int (r.den : Int)]) = H16 at e16 ho ⊢
    refine ⟨_, rfl, o, q, -r, s', 52, 70, rfl, ho, hq15.mono e16, sz1.neg, sz2, by decide, fun d4 H17 e17 hd4 => ?_⟩
    have hp17 := hp15.mono (e16.trans e17)
    have hq17 := hq15.mono (e16.trans e17)
    refine ⟨_, rfl, _, rfl, p, q, r, s', 52, 70, rfl, hp17, hq17, sz1, sz2, by decide, fun d5 H18 e18 hd5 => ?_⟩
    refine ⟨_, rfl, _, rfl, p, q, r, s', 52, 70, rfl, hp17.mono e18, hq17.mono e18, sz1, sz2, by decide, fun d6 H19 e19 hd6 => ?_⟩
    refine ⟨(by show 3 ≤ sizeLine; decide), fun l2 hl2 => ?_⟩
    have e20 : Ex H19 (upd H19 l2 (.lst [.ref d4, .ref d5, .ref d6])) := Evl.Ex.new hl2
    have hl20 : upd H19 l2 (.lst [.ref d4, .ref d5, .ref d6]) l2 = some (.lst [.ref d4, .ref d5, .ref d6]) := upd_same
    generalize upd H19 l2 (.lst [.ref d4, .ref d5, .ref d6]) = H20 at e20 hl20 ⊢
    have e1520 := ((e16.trans e17).trans (e18.trans e19)).trans e20
    refine ⟨l1, l2, _, _, rfl, rfl, e1520 _ _ hl15, hl20, (by show 6 ≤ sizeLine; decide), fun ld hld => ?_⟩
    have e21 : Ex H20 (upd H20 ld (.lst ([.ref d1, .ref d2, .ref d3] ++ [.ref d4, .ref d5, .ref d6]))) := Evl.Ex.new hld
    have hl21 : upd H20 ld (.lst ([.ref d1, .ref d2, .ref d3] ++ [.ref d4, .ref d5, .ref d6])) ld = some (.lst [.ref d1, .ref d2, .ref d3, .ref d4, .ref d5, .ref d6]) := upd_same
    generalize upd H20 ld (.lst ([.ref d1, .ref d2, .ref d3] ++ [.ref d4, .ref d5, .ref d6])) = H21 at e21 hl21 ⊢
    have e1521 := e1520.trans e21
    have hd1' : PrAt H21 d1 (r + s') := PrAt.mono hd1 ((e12.trans (e13.trans e14)).trans (e15.trans e1521))
    have hd2' : PrAt H21 d2 (s' + r) := by
      rw [Rat.add_comm]
      exact PrAt.mono hd2 ((e13.trans e14).trans (e15.trans e1521))
    have hd3' : PrAt H21 d3 (r - s') := by
      rw [Rat.sub_eq_add_neg]
      exact PrAt.mono hd3 (e15.trans e1521)
    have hd4' : PrAt H21 d4 (s' - r) := by
      rw [Rat.sub_eq_add_neg, Rat.add_comm]
      exact PrAt.mono hd4 (((e18.trans e19).trans e20).trans e21)
    have hd5' : PrAt H21 d5 (r * s') := PrAt.mono hd5 ((e19.trans e20).trans e21)
    have hd6' : PrAt H21 d6 (s' * r) := by
      rw [Rat.mul_comm]
      exact PrAt.mono hd6 (e20.trans e21)
    have e1021 := e1015.trans e1521
    have ha21 := ha10.mono e1021
    have hp21 := hp10.mono e1021
    have hq21 := hq10.mono e1021
    have hl21' := e1021 _ _ hl10
    have e021 := e010.trans e1021
    have dpd : ∀ Hx, Ex H21 Hx → Dp K Hx (.ref ld) (.list [prD (r + s'), prD (s' + r), prD (r - s'), prD (s' - r), prD (r * s'), prD (s' * r)]) := fun Hx ex => .lst (SqL.of (ex _ _ hl21)) (.cons (dp_pr (hd1'.mono ex)) (.cons (dp_pr (hd2'.mono ex)) (.cons (dp_pr (hd3'.mono ex)) (.cons (dp_pr (hd4'.mono ex)) (.cons (dp_pr (hd5'.mono ex)) (.cons (dp_pr (hd6'.mono ex)) .nil))))))
    clear hd1 hd2 hd3 hd4 hd5 hd6 hd1' hd2' hd3' hd4' hd5' hd6' hp10 hq10 ha10 hp15 hq15 hp17 hq17 hm ho
    -- [pair(..) ..] != due
    refine ⟨_, rfl, l, rfl, ⟨_, SqL.of hl21'⟩, fun D2 hD2 => lc_yes (K := K) (a := l) (xs := [V.ref c1, V.ref c2, V.ref c3, V.ref c4, V.ref c5, V.ref c6]) (fun i H' => Ex H21 H' ∧ ∃ ts, PrsAt H' D2 ts ([r + s', s' + r, r - s', s' - r, r * s', s' * r].take i)) ⟨Evl.Ex.new hD2, [], upd_same, rfl, fun i t h => by simp at h⟩ (fun i H' _ h => SqL.of (h.1 _ _ hl21')) ?_ ?_⟩
    · rintro i x H' hx ⟨e, ts, hts⟩
      obtain ⟨c, y, rfl, hy, hc⟩ := elem i x hx
      refine ⟨_, rfl, _, y, rfl, .inr ⟨c, rfl, hc.mono (e1021.trans e)⟩, fun tn H'' e'' htn => ⟨ts.map V.ref, e'' _ _ hts.1, ?_, Evl.Ex.mut (e.trans e'') hD2, ts ++ [tn], ?_⟩⟩
      · have h1 := hts.2.1
        have h2 : ([r + s', s' + r, r - s', s' - r, r * s', s' * r].take i).length ≤ 6 := Nat.le_trans (List.length_take_le' ..) (Nat.le_refl _)
        rw [List.length_map]
        exact small1000 (by omega)
      · rw [List.take_add_one, hy]
        exact hts.snoc e'' htn
    · rintro H22 ⟨e22, ts, hts⟩
      refine ⟨_, rfl, _, _, dp_prs hts, dpd _ e22, rfl, rfl, _, rfl, ?_⟩
      have ev : PyData.eqv (.list ([r + s', s' + r, r - s', s' - r, r * s', s' * r].map prD)) (.list [prD (r + s'), prD (s' + r), prD (r - s'), prD (s' - r), prD (r * s'), prD (s' * r)]) = true := eqv_self (d := .list [prD (r + s'), prD (s' + r), prD (r - s'), prD (s' - r), prD (r * s'), prD (s' * r)]) rfl
      have ev' : PyData.eqv (.list (([r + s', s' + r, r - s', s' - r, r * s', s' * r].take [V.ref c1, V.ref c2, V.ref c3, V.ref c4, V.ref c5, V.ref c6].length).map prD)) (.list [prD (r + s'), prD (s' + r), prD (r - s'), prD (s' - r), prD (r * s'), prD (s' * r)]) = true := ev
      rw [ev']
      refine iteF ?_
      -- not all([isinstance(..) ..])
      have hl22 := e22 _ _ hl21'
      refine ⟨_, rfl, l, rfl, ⟨_, SqL.of hl22⟩, fun D hD => lc_yes (K := K) (a := l) (xs := [V.ref c1, V.ref c2, V.ref c3, V.ref c4, V.ref c5, V.ref c6]) (fun i H' => Ex H22 H' ∧ H' D = some (.lst (List.replicate i (.bl true)))) ⟨Evl.Ex.new hD, upd_same⟩ (fun i H' _ h => SqL.of (h.1 _ _ hl22)) ?_ ?_⟩
      · rintro i x H' hx ⟨e, hd⟩
        have hi : i < 6 := (List.getElem?_eq_some_iff.mp hx).1
        obtain ⟨c, y, rfl, _, hc⟩ := elem i x hx
        refine ⟨_, rfl, _, _, _, _, true, rfl, .own _, tyR L.R.T (hc.mono (e1021.trans (e22.trans e))), L.R.T.kC, List.replicate i (.bl true), hd, (by rw [List.length_replicate]; exact small1000 (by omega)), Evl.Ex.mut e hD, ?_⟩
        rw [upd_same, List.replicate_succ']
      · rintro H23 ⟨e23, hd23⟩
        refine ⟨D, [true, true, true, true, true, true], rfl, SqL.of hd23, true, rfl, iteF ?_⟩
        have e2123 := e22.trans e23
        have ha23 := ha21.mono e2123
        have hp23 := hp21.mono e2123
        have hq23 := hq21.mono e2123
        have e023 := e021.trans e2123
        obtain ⟨da23, ha23'⟩ := id ha23
        refine ⟨_, rfl, a, da23, _, rfl, ha23', pf_no _ _ (by decide +kernel) (by decide +kernel), _, rfl, a, _, r, s', 52, 70, rfl, ha23, hI _, sz1, sz2, by decide, fun H24 e24 => ?_⟩
        have ha24 := ha23.mono e24
        obtain ⟨da24, ha24'⟩ := id ha24
        refine ⟨_, rfl, a, da24, _, rfl, ha24', pf_no _ _ (by decide +kernel) (by decide +kernel), _, rfl, a, _, r, s', 52, 70, rfl, ha24, hI _, sz1, sz2, by decide, fun H25 e25 => ?_⟩
        refine ⟨(by show 2 ≤ sizeLine; decide), fun lr hlr => ?_⟩
        dsimp only
        have e26 : Ex H25 (upd H25 lr (.lst [.bl (decide (r ≤ s')), .bl (decide (r < s'))])) := Evl.Ex.new hlr
        have hl26 : upd H25 lr (.lst [.bl (decide (r ≤ s')), .bl (decide (r < s'))]) lr = some (.lst [.bl (decide (r ≤ s')), .bl (decide (r < s'))]) := upd_same
        generalize upd H25 lr (.lst [.bl (decide (r ≤ s')), .bl (decide (r < s'))]) = H26 at e26 hl26 ⊢
        have lv := leaves_show (leaf2 (x := decide (r ≤ s')) (y := decide (r < s'))) (by show 2 ≤ 100; decide)
        refine ⟨lr, _, rfl, .lst (SqL.of hl26) (.cons (.bl _) (.cons (.bl _) .nil)), lv.1, lv.2.1, lv.2.2.1, lv.2.2.2, ?_⟩
        have e2326 := (e24.trans e25).trans e26
        have ha26 := ha23.mono e2326
        have hp26 := hp23.mono e2326
        have hq26 := hq23.mono e2326
        have e026 := e023.trans e2326
        refine ⟨_, rfl, _, rfl, p, q, r, s', 52, 70, rfl, hp26, hq26, sz1, sz2, by decide, ?_⟩
        refine ⟨_, rfl, _, rfl, prD r, prD s', dp_pr hp26, dp_pr hq26, sh_pr _, sh_pr _, _, rfl, ?_⟩
        rw [eqv_pr]
        have key := lt_le_ne r s'
        cases hE : decide (r = s') with
        | true =>
          rw [hE] at key
          refine iteF ?_
          have kz : decide (r < s') = false := key
          rw [kz] at lv ⊢
          refine ⟨(by show 2 ≤ sizeLine; decide), fun ls hls => ?_⟩
          have e27 : Ex H26 (upd H26 ls (.lst [.bl (decide (r ≤ s')), .bl false])) := Evl.Ex.new hls
          have hl27 : upd H26 ls (.lst [.bl (decide (r ≤ s')), .bl false]) ls = some (.lst [.bl (decide (r ≤ s')), .bl false]) := upd_same
          generalize upd H26 ls (.lst [.bl (decide (r ≤ s')), .bl false]) = H27 at e27 hl27 ⊢
          refine ⟨ls, _, rfl, .lst (SqL.of hl27) (.cons (.bl _) (.cons (.bl _) .nil)), lv.1, lv.2.1, lv.2.2.1, lv.2.2.2, rfl, _, rfl, iteNS rfl ?_⟩
          have ha27 := ha26.mono e27
          have hp27 := hp26.mono e27
          have hq27 := hq26.mono e27
          have e027 := e026.trans e27
          obtain ⟨da27, ha27'⟩ := id ha27
          -- number != 0
          refine ⟨_, rfl, rfl, _, rfl, ?_⟩
          rw [dec_i]
          cases hz : decide (n = 0) with
          | false =>
            have n0 : n ≠ 0 := of_decide_eq_false hz
            have s0 : s' ≠ 0 := fun h => n0 (by rw [← hs0] at h; exact_mod_cast h)
            refine iteT ?_
            refine ⟨_, rfl, a, da27, _, rfl, ha27', pf_no _ _ (by decide +kernel) (by decide +kernel), _, rfl, rfl, a, _, r, s', 52, 70, rfl, ha27, hI _, s0, sz1, sz2, by decide, fun o H28 e28 ho => ?_⟩
            refine ⟨_, _, rfl, .inr ⟨o, rfl, ho⟩, fun to H29 e29 hto => ?_⟩
            refine ⟨_, rfl, _, rfl, 1, n, 70, rfl, n0, by decide, hn, by decide, fun tl H30 e30 htl => ?_⟩
            have e2730 := (e28.trans e29).trans e30
            refine ⟨p, tl, r, _, 52, 70, rfl, hp27.mono e2730, htl, sz1, Sz.low (by decide) hn n0, by decide, fun tt H31 e31 htt => ?_⟩
            have htt' : PrAt H31 tt (r / s') := by
              rw [← over_mul, ← hs0]
              exact htt
            refine ⟨prD (r / s'), prD (r / s'), dp_pr (hto.mono (e30.trans e31)), dp_pr htt', sh_pr _, sh_pr _, _, rfl, ?_⟩
            rw [eqv_pr, decide_eq_true rfl]
            refine iteF ?_
            have e2731 := e2730.trans e31
            have ha31 := ha27.mono e2731
            obtain ⟨da31, ha31'⟩ := id ha31
            refine ⟨_, rfl, a, da31, _, rfl, ha31', pf_no _ _ (by decide +kernel) (by decide +kernel), _, rfl, a, _, r, s', 52, 70, rfl, ha31, hI _, s0, sz1, sz2, by decide, fun o2 H32 e32 ho2 => ?_⟩
            refine ⟨_, _, _, _, true, rfl, .own _, tyR L.R.T ho2, L.R.T.kC, true, rfl, iteF ?_⟩
            have ha32 := ha31.mono e32
            obtain ⟨dx, hx'⟩ := id ha32
            refine ⟨_, rfl, _, rfl, a, dx, _, rfl, hx', .inl ⟨n, rfl⟩, a, _, r, rfl, ha32, .inl ⟨n, rfl, false, false, rfl, rfl, true, rfl, iteT ?_⟩⟩
            exact ⟨_, rfl, _, rfl, n, a, dx, _, rfl, rfl, hx', a, _, r, rfl, ha32, .inl ⟨n, rfl, false, false, rfl, rfl, k _ (e027.trans (e2731.trans e32))⟩⟩
          | true =>
            refine iteF ?_
            obtain ⟨dx, hx'⟩ := id ha27
            refine ⟨_, rfl, _, rfl, a, dx, _, rfl, hx', .inl ⟨n, rfl⟩, a, _, r, rfl, ha27, .inl ⟨n, rfl, false, false, rfl, rfl, true, rfl, iteT ?_⟩⟩
            exact ⟨_, rfl, _, rfl, n, a, dx, _, rfl, rfl, hx', a, _, r, rfl, ha27, .inl ⟨n, rfl, false, false, rfl, rfl, k _ (e027)⟩⟩
        | false =>
          rw [hE] at key
          refine iteT ⟨_, rfl, _, rfl, p, q, r, s', 52, 70, rfl, hp26, hq26, sz1, sz2, by decide, ?_⟩
          have kz : decide (r < s') = (decide (r ≤ s')) := key
          rw [kz] at lv ⊢
          refine ⟨(by show 2 ≤ sizeLine; decide), fun ls hls => ?_⟩
          have e27 : Ex H26 (upd H26 ls (.lst [.bl (decide (r ≤ s')), .bl (decide (r ≤ s'))])) := Evl.Ex.new hls
          have hl27 : upd H26 ls (.lst [.bl (decide (r ≤ s')), .bl (decide (r ≤ s'))]) ls = some (.lst [.bl (decide (r ≤ s')), .bl (decide (r ≤ s'))]) := upd_same
          generalize upd H26 ls (.lst [.bl (decide (r ≤ s')), .bl (decide (r ≤ s'))]) = H27 at e27 hl27 ⊢
          refine ⟨ls, _, rfl, .lst (SqL.of hl27) (.cons (.bl _) (.cons (.bl _) .nil)), lv.1, lv.2.1, lv.2.2.1, lv.2.2.2, rfl, _, rfl, iteNS rfl ?_⟩
          have ha27 := ha26.mono e27
          have hp27 := hp26.mono e27
          have hq27 := hq26.mono e27
          have e027 := e026.trans e27
          obtain ⟨da27, ha27'⟩ := id ha27
          -- number != 0
          refine ⟨_, rfl, rfl, _, rfl, ?_⟩
          rw [dec_i]
          cases hz : decide (n = 0) with
          | false =>
            have n0 : n ≠ 0 := of_decide_eq_false hz
            have s0 : s' ≠ 0 := fun h => n0 (by rw [← hs0] at h; exact_mod_cast h)
            refine iteT ?_
            refine ⟨_, rfl, a, da27, _, rfl, ha27', pf_no _ _ (by decide +kernel) (by decide +kernel), _, rfl, rfl, a, _, r, s', 52, 70, rfl, ha27, hI _, s0, sz1, sz2, by decide, fun o H28 e28 ho => ?_⟩
            refine ⟨_, _, rfl, .inr ⟨o, rfl, ho⟩, fun to H29 e29 hto => ?_⟩
            refine ⟨_, rfl, _, rfl, 1, n, 70, rfl, n0, by decide, hn, by decide, fun tl H30 e30 htl => ?_⟩
            have e2730 := (e28.trans e29).trans e30
            refine ⟨p, tl, r, _, 52, 70, rfl, hp27.mono e2730, htl, sz1, Sz.low (by decide) hn n0, by decide, fun tt H31 e31 htt => ?_⟩
            have htt' : PrAt H31 tt (r / s') := by
              rw [← over_mul, ← hs0]
              exact htt
            refine ⟨prD (r / s'), prD (r / s'), dp_pr (hto.mono (e30.trans e31)), dp_pr htt', sh_pr _, sh_pr _, _, rfl, ?_⟩
            rw [eqv_pr, decide_eq_true rfl]
            refine iteF ?_
            have e2731 := e2730.trans e31
            have ha31 := ha27.mono e2731
            obtain ⟨da31, ha31'⟩ := id ha31
            refine ⟨_, rfl, a, da31, _, rfl, ha31', pf_no _ _ (by decide +kernel) (by decide +kernel), _, rfl, a, _, r, s', 52, 70, rfl, ha31, hI _, s0, sz1, sz2, by decide, fun o2 H32 e32 ho2 => ?_⟩
            refine ⟨_, _, _, _, true, rfl, .own _, tyR L.R.T ho2, L.R.T.kC, true, rfl, iteF ?_⟩
            have ha32 := ha31.mono e32
            obtain ⟨dx, hx'⟩ := id ha32
            refine ⟨_, rfl, _, rfl, a, dx, _, rfl, hx', .inl ⟨n, rfl⟩, a, _, r, rfl, ha32, .inl ⟨n, rfl, false, false, rfl, rfl, true, rfl, iteT ?_⟩⟩
            exact ⟨_, rfl, _, rfl, n, a, dx, _, rfl, rfl, hx', a, _, r, rfl, ha32, .inl ⟨n, rfl, false, false, rfl, rfl, k _ (e027.trans (e2731.trans e32))⟩⟩
          | true =>
            refine iteF ?_
            obtain ⟨dx, hx'⟩ := id ha27
            refine ⟨_, rfl, _, rfl, a, dx, _, rfl, hx', .inl ⟨n, rfl⟩, a, _, r, rfl, ha27, .inl ⟨n, rfl, false, false, rfl, rfl, true, rfl, iteT ?_⟩⟩
            exact ⟨_, rfl, _, rfl, n, a, dx, _, rfl, rfl, hx', a, _, r, rfl, ha27, .inl ⟨n, rfl, false, false, rfl, rfl, k _ (e027)⟩⟩

end
end K11
namespace K11
open PySem L2 GX KM
open Evl (Ex)
abbrev sSumsR : Stmt := top 26
section
variable {P : Program} {w : World} {K : PySem.W.Frag} {mg : Str → Option Value} {base : Heap}
/-- the classmethod total -/
structure TotK (R : RK P w K mg base) where
  f : Addr
  fd : FuncData
  F : FnOk P w K mg base CX0 6 f fd ["cls", "numbers"] (spTotal R.C)
  b : Binds K fd ["cls", "numbers"] []
  kb : KBn K fd ["cls", "numbers"] 1 ["numbers"] (fun us ws => us ++ ws) (fun vs zs => vs ++ zs)
  mc : Value
  p : Addr
  cr : ClX.CRead K R.C mc
  cm : ClX.CMet K R.C mc "total" p f
  tup : mg "tuple" = none
/-! ### one behind the other, from behind too -/
theorem sumL_from (rs : List Rat) (x : Rat) : rs.foldl (· + ·) x = x + sumL rs := by
  induction rs generalizing x with
  | nil => simp [sumL, Rat.add_zero]
  | cons r rs ih =>
    unfold sumL
    rw [List.foldl_cons, List.foldl_cons, ih, ih, Rat.zero_add, Rat.add_assoc]
theorem sumL_rev (rs : List Rat) : sumL rs.reverse = sumL rs := by
  induction rs with
  | nil => rfl
  | cons r rs ih =>
    rw [List.reverse_cons, sumL_snoc, ih, Rat.add_comm]
    show _ = (r :: rs).foldl (· + ·) 0
    rw [List.foldl_cons, sumL_from, Rat.zero_add]
theorem RtAt.put {C a D : Addr} {H : Hp} {r : Rat} {xs : List V} {o : HO} (h : RtAt C H a r) (hD : H D = some (.lst xs)) : RtAt C (upd H D o) a r := by
  obtain ⟨dx, h⟩ := h
  refine ⟨dx, ?_⟩
  rw [upd_ne (ne_of h hD (by intro q; cases q))]
  exact h
theorem RtAt.monoP {C a p : Addr} {H H' : Hp} {r : Rat} (h : RtAt C H a r) (hp : PotAt H p) (e : ExP p H H') : RtAt C H' a r := by
  obtain ⟨dx, h⟩ := h
  obtain ⟨x, y, hx, _⟩ := hp
  exact ⟨dx, e.old _ _ (ne_of h hx (by intro q; cases q)) h⟩
/-- Ratios of these worths -/
def RtsAt (C : Addr) (H : Hp) (as : List Addr) (rs : List Rat) : Prop := as.length = rs.length ∧ ∀ (i : Nat) a, as[i]? = some a → ∃ r, rs[i]? = some r ∧ RtAt C H a r
theorem RtsAt.nums {C : Addr} {H : Hp} {as : List Addr} {rs : List Rat} (h : RtsAt C H as rs) : NumsV C H (as.map V.ref) rs := by
  refine ⟨by rw [List.length_map, h.1], fun i x hx => ?_⟩
  rw [List.getElem?_map] at hx
  cases ha : as[i]? with
  | none => rw [ha] at hx; cases hx
  | some a =>
    rw [ha] at hx
    obtain ⟨r, h1, h2⟩ := h.2 i a ha
    exact ⟨r, h1, .inr ⟨a, by simpa using hx.symm, h2⟩⟩
theorem RtsAt.snoc {C D a : Addr} {H : Hp} {as : List Addr} {rs : List Rat} {r : Rat} {xs : List V} {o : HO} (h : RtsAt C H as rs) (hD : H D = some (.lst xs)) (ha : RtAt C H a r) : RtsAt C (upd H D o) (as ++ [a]) (rs ++ [r]) := by
  refine ⟨by rw [List.length_append, List.length_append, h.1]; rfl, fun i x hx => ?_⟩
  by_cases hi : i < as.length
  · rw [List.getElem?_append_left hi] at hx
    obtain ⟨s, h1, h2⟩ := h.2 i x hx
    exact ⟨s, by rw [List.getElem?_append_left (by rw [← h.1]; exact hi)]; exact h1, h2.put hD⟩
  · rw [List.getElem?_append_right (by omega)] at hx
    have h0 : i - as.length = 0 := by
      cases hq : i - as.length with
      | zero => rfl
      | succ n => rw [hq] at hx; simp at hx
    rw [h0] at hx
    have hx' : a = x := by simpa using hx
    subst hx'
    refine ⟨r, ?_, ha.put hD⟩
    rw [List.getElem?_append_right (by rw [← h.1]; omega), ← h.1, h0]
    rfl
theorem RtsAt.mono {C : Addr} {H H' : Hp} {as : List Addr} {rs : List Rat} (h : RtsAt C H as rs) (e : Ex H H') : RtsAt C H' as rs := ⟨h.1, fun i a ha => let ⟨r, h1, h2⟩ := h.2 i a ha; ⟨r, h1, h2.mono e⟩⟩
theorem RtsAt.monoP {C p : Addr} {H H' : Hp} {as : List Addr} {rs : List Rat} (h : RtsAt C H as rs) (hp : PotAt H p) (e : ExP p H H') : RtsAt C H' as rs := ⟨h.1, fun i a ha => let ⟨r, h1, h2⟩ := h.2 i a ha; ⟨r, h1, h2.monoP hp e⟩⟩
theorem first3 {α : Type} {as : List α} (h : as.length = 6) : ∃ a b c as', as = a :: b :: c :: as' := by
  match as, h with
  | a :: b :: c :: as', _ => exact ⟨a, b, c, as', rfl⟩
theorem three : sumL [((1 : Int) : Rat), ((2 : Int) : Rat)] = ((3 : Int) : Rat) := by decide +kernel
theorem zero_rat : ((0 : Int) : Rat) = 0 := by decide +kernel
/-- drawn pairs -/
def DrsAt (H : Hp) (l : Addr) (ts : List Addr) (rs : List Rat) : Prop := H l = some (.lst (ts.map V.ref)) ∧ ts.length = rs.length ∧ ∀ (i : Nat) t, ts[i]? = some t → ∃ u v, DrAt H t u v ∧ rs[i]? = some (Rat.divInt u v)
def spSumsR : Sp := fun vs H Q _ => ∃ p l ts rs, vs = [.ref p, .ref l] ∧ PotAt H p ∧ l ≠ p ∧ DrsAt H l ts rs ∧ rs.length = 6 ∧ ∀ H', ExP p H H' → Q (.bl true) H'
abbrev NSu : List Str := ["_law_pot_here", "_law_drawn_here", "_law_numbers", "_law_due", "_law_number", "_law_told", "_law_a", "_law_b", "_law_c", "_law_one", "_law_value"]
theorem scSumsR : FnScope NSu ["_law_pot_here", "_law_drawn_here"] (defScope sSumsR) := ⟨rfl, rfl, rfl, by decide +kernel, rfl, by decide +kernel, by decide +kernel⟩
theorem ok_sumsR (L : LK P w K mg base) (Z : TotK L.R) {f : Addr} {fd : FuncData} (F : Fun K "_law_sums_right" "_law_sums_right" sSumsR f fd) : FnOk P w K mg base CX0 7 f fd ["_law_pot_here", "_law_drawn_here"] spSumsR := by
  refine F.ok scSumsR (fun vs H Q E h => ?_) (fun cdv A outer s H vs Q E hr h => ?_)
  · obtain ⟨p, l, ts, rs, rfl, _⟩ := h
    rfl
  · obtain ⟨p, l, ts, rs, rfl, hp, lp, hts, hlen, k⟩ := h
    have hr5 : Room 5 _ := hr.mono (by decide)
    have hr3 : Room 3 _ := hr.mono (by decide)
    have hr2 : Room 2 _ := hr.mono (by decide)
    have hr1 : Room 1 _ := hr.mono (by decide)
    refine ⟨_, pss_cons (ps_set (i := 2) scSumsR.nd rfl (Or.inl rfl) (pe_op op_cat (pe_lc (own := [("_law_one", 9)]) (g := gName 9) (tt := tYes) rfl scSumsR.nd (pi_list (pv 1)) (blkOk_by (N := NSu) (sc := defScope sSumsR) (by decide +kernel)) (fun _ _ _ _ _ => pg_name (i := 9) scSumsR.nd rfl (Or.inl rfl)) (fun _ _ _ _ _ => pts_nil)
          (fun _ _ _ _ _ => by exact pe_make L.R.mkr.M L.R.mkr.G hr3 (by rfl) L.R.T.mgC L.R.mkr.b2 .nil pass0 (pa_cons (pe_ix (r := rIxT K) ix_tup (pv 9) pe_int (fun _ _ => rfl)) (pa_cons (pe_ix (r := rIxT K) ix_tup (pv 9) pe_int (fun _ _ => rfl)) pa_nil))))
          (pe_lst (pa_cons (pe_op op_sub (pe_df L.draw hr (pa_cons (pv 0) (pa_cons pe_int pa_nil))) pe_int) (pa_cons (pe_make L.R.mkr.M L.R.mkr.G hr3 (by rfl) L.R.T.mgC L.R.mkr.b1 L.R.mkr.d1 pass0 (pa_cons pe_int pa_nil)) (pa_cons pe_int pa_nil))))))
      (pss_cons (ps_set (i := 3) scSumsR.nd rfl (Or.inl rfl) (pe_tup (pa_cons pe_int (pa_cons pe_int pa_nil))))
      (pss_cons (ps_for PassesOwn.never rfl (pi_list (pv 2)) (pg_name (i := 4) scSumsR.nd rfl (Or.inl rfl)) (pss_one (ps_set (i := 3) scSumsR.nd rfl (Or.inl rfl) (pe_df L.plus hr (pa_cons (pv 3) (pa_cons (pe_df L.pair hr (pa_cons (pv 4) pa_nil)) pa_nil))))))
      (pss_cons (ps_set (i := 5) scSumsR.nd rfl (Or.inl rfl) (pe_lst (pa_cons (ClX.pe_cmeth (pl := _) (pe_glob (v := .ref L.R.C) (by rfl) L.R.T.mgC rfl) Z.cr Z.cm (Z.F.raw Z.b .nil) hr pass0 (pa_cons (pv 2) pa_nil)) (pa_cons (pe_cmethK (pl := _) (pe_glob (v := .ref L.R.C) (by rfl) L.R.T.mgC rfl) Z.cr Z.cm Z.F hr Z.kb pass0 (pe_callTy call_tuple_of (by rfl) Z.tup (by decide +kernel) (pa_cons (pe_revL (pv 2)) pa_nil))) (pa_cons (ClX.pe_cmeth (pl := _) (pe_glob (v := .ref L.R.C) (by rfl) L.R.T.mgC rfl) Z.cr Z.cm (Z.F.raw Z.b .nil) hr pass0 (pa_cons (pe_lst pa_nil) pa_nil)) (pa_cons (ClX.pe_cmeth (pl := _) (pe_glob (v := .ref L.R.C) (by rfl) L.R.T.mgC rfl) Z.cr Z.cm (Z.F.raw Z.b .nil) hr pass0 (pa_cons (pe_tup (pa_cons pe_int (pa_cons pe_int pa_nil))) pa_nil)) pa_nil))))))
      (pss_cons (ps_if (pt_cmpR (op_neD hr.units) (pe_lc (own := [("_law_value", 10)]) (g := gName 10) (tt := tYes) (te := tCall (spPair L.R.C) [] E0 (tCons (tVar 10) tNil)) rfl scSumsR.nd (pi_list (pv 5)) (blkOk_by (N := NSu) (sc := defScope sSumsR) (by decide +kernel)) (fun _ _ _ _ _ => pg_name (i := 10) scSumsR.nd rfl (Or.inl rfl)) (fun _ _ _ _ _ => pts_nil)
          (fun _ _ _ _ _ => by exact pe_df L.pair hr (pa_cons (pv 10) pa_nil))) (pe_lst (pa_cons (pv 3) (pa_cons (pv 3) (pa_cons (pe_tup (pa_cons pe_int (pa_cons pe_int pa_nil))) (pa_cons (pe_tup (pa_cons pe_int (pa_cons pe_int pa_nil))) pa_nil))))) (nomark _)) (pss_one ps_never) pss_nil)
      (pss_cons (ps_if (pt_not (pt_val (pe_callB (cr_all rfl) (by rfl) L.N.all (by decide +kernel) (pa_cons (pe_lc (own := [("_law_value", 10)]) (g := gName 10) (tt := tYes) (te := tCB (rIsi K) (tCons (tVar 10) (tCons (tC (.ref L.R.C)) tNil))) rfl scSumsR.nd (pi_list (pv 5)) (blkOk_by (N := NSu) (sc := defScope sSumsR) (by decide +kernel)) (fun _ _ _ _ _ => pg_name (i := 10) scSumsR.nd rfl (Or.inl rfl)) (fun _ _ _ _ _ => pts_nil)
            (fun _ _ _ _ _ => by exact pe_callB call_isi (by rfl) L.R.T.isi (by decide +kernel) (pa_cons (pv 10) (pa_cons (pe_glob (v := .ref L.R.C) (by rfl) L.R.T.mgC rfl) pa_nil)))) pa_nil)))) (pss_one ps_never) pss_nil)
      (pss_cons (ps_par3 (i := 6) (j := 7) (l := 8) (by rfl) scSumsR.nd rfl rfl rfl (by decide) (by decide) (by decide) rfl rfl rfl (pa_cons (pe_ix ix_list (pv 2) pe_int (fun _ _ => rfl)) (pa_cons (pe_ix ix_list (pv 2) pe_int (fun _ _ => rfl)) (pa_cons (pe_ix ix_list (pv 2) pe_int (fun _ _ => rfl)) pa_nil))) (by rfl))
      (pss_cons (ps_if (PW.pt (pw_or (pt_cmpR (op_neOwn L.eq.F hr2 L.eq.b L.ne L.R.T.hmo L.eq.m.at_ L.eq.m.fn (E := E0)) (pe_op (L.mul.op hr5) (pv 6) (pe_op (L.add.op hr5) (pv 7) (pv 8))) (pe_op (L.add.op hr5) (pe_op (L.mul.op hr5) (pv 6) (pv 7)) (pe_op (L.mul.op hr5) (pv 6) (pv 8))) (nomark _))
          (pw_or (pt_cmpR (op_neOwn L.eq.F hr2 L.eq.b L.ne L.R.T.hmo L.eq.m.at_ L.eq.m.fn (E := E0)) (pe_op (L.add.op hr5) (pe_op (L.add.op hr5) (pv 6) (pv 7)) (pv 8)) (pe_op (L.add.op hr5) (pv 6) (pe_op (L.add.op hr5) (pv 7) (pv 8))) (nomark _))
          (pw_or1 (pt_cmpR (op_neOwn L.eq.F hr2 L.eq.b L.ne L.R.T.hmo L.eq.m.at_ L.eq.m.fn (E := E0)) (pe_op (L.mul.op hr5) (pe_op (L.mul.op hr5) (pv 6) (pv 7)) (pv 8)) (pe_op (L.mul.op hr5) (pv 6) (pe_op (L.mul.op hr5) (pv 7) (pv 8))) (nomark _)))))) (pss_one ps_never) pss_nil)
      (pss_one (ps_ret (pe_and (pe_cmpR (op_eqOwn L.eq.F hr1 L.eq.b L.eq.m.at_ L.eq.m.fn L.siC (E := E0)) (pe_op (L.sub.op hr5) (pv 6) (pv 6)) (pe_make L.R.mkr.M L.R.mkr.G hr3 (by rfl) L.R.T.mgC L.R.mkr.b1 L.R.mkr.d1 pass0 (pa_cons pe_int pa_nil)) (nomark _))
        (pe_and (pe_cmpR (op_eqOwn L.eq.F hr1 L.eq.b L.eq.m.at_ L.eq.m.fn L.siC (E := E0)) (pe_op (L.sub.op hr5) (pe_op (L.add.op hr5) (pv 6) (pv 7)) (pv 7)) (pv 6) (nomark _))
        (pe_one (pe_or (pe_cmpR op_eq (pe_pr L.sign hr (pv 7)) pe_int (nomark _)) (pe_one (pe_cmpR (op_eqOwn L.eq.F hr1 L.eq.b L.eq.m.at_ L.eq.m.fn L.siC (E := E0)) (pe_mt1 L.over hr (pe_op (L.mul.op hr5) (pv 6) (pv 7)) (pv 7)) (pv 6) (nomark _)))))))))))))))), ?_⟩
    obtain ⟨hl0, htl, hdr⟩ := hts
    -- numbers
    refine ⟨_, rfl, l, rfl, ⟨_, SqL.of hl0⟩, fun D hD => lc_yes (K := K) (a := l) (xs := ts.map V.ref) (fun i H' => Ex H H' ∧ ∃ as, H' D = some (.lst (as.map V.ref)) ∧ RtsAt L.R.C H' as (rs.take i)) ⟨Evl.Ex.new hD, [], upd_same, rfl, fun i a h => by simp at h⟩ (fun i H' _ h => SqL.of (h.1 _ _ hl0)) ?_ ?_⟩
    · rintro i x H' hx ⟨e, as, hd, has⟩
      rw [List.getElem?_map] at hx
      cases ht0 : ts[i]? with
      | none => rw [ht0] at hx; cases hx
      | some t =>
      rw [ht0] at hx
      obtain rfl : x = .ref t := by simpa using hx.symm
      obtain ⟨u, v, ⟨ht, v0, hu, hv⟩, hri⟩ := hdr i t ht0
      have ht' := e _ _ ht
      have q9 : v.natAbs < 2 ^ 9000 := lt_more hv (by decide)
      refine ⟨_, rfl, t, _, _, _, rfl, rfl, SqT.of ht', atI_nat (j := 0) rfl, _, rfl, t, _, _, _, rfl, rfl, SqT.of ht', atI_nat (j := 1) rfl, fun a da xa xda _ => ⟨a, da, u, v, rfl, v0, q9, upd_same, fun H1 h1 => ⟨rfl, ?_⟩⟩⟩
      obtain ⟨e1, ha⟩ := made_ex xa xda h1
      have hd1 := e1 _ _ hd
      refine ⟨as.map V.ref, hd1, ?_, Evl.Ex.mut (e.trans e1) hD, as ++ [a], ?_, ?_⟩
      · have h1 := has.1
        have h2 : (rs.take i).length ≤ 6 := hlen ▸ List.length_take_le' ..
        rw [List.length_map]
        exact small1000 (by omega)
      · rw [upd_same, List.map_append]
        rfl
      · rw [List.take_add_one, hri]
        exact (has.mono e1).snoc hd1 ha
    rintro H1 ⟨e1, as, hd1, has⟩
    rw [List.length_map, htl, List.take_length] at has
    have hp1 := hp.mono e1
    have hDp : D ≠ p := fun z => by
      obtain ⟨x, y, hx, _⟩ := hp
      rw [z, hx] at hD
      cases hD
    refine ⟨_, rfl, p, 9, rfl, hp1, by decide, by decide, fun d H2 d0 d9 e2 => ⟨_, _, rfl, rfl, ?_⟩⟩
    have hd2 := e2.old _ _ hDp hd1
    have has2 := has.monoP hp1 e2
    have eP2 : ExP p H H2 := (ExP.of hp e1).trans e2
    refine fun z dz xz xdz _ => ⟨z, dz, 0, 1, rfl, by decide, one_lt, upd_same, fun H3 h3 => ⟨rfl, ?_⟩⟩
    obtain ⟨e3, hz⟩ := made_ex xz xdz h3
    rw [of_int] at hz
    refine ⟨(by show 3 ≤ sizeLine; decide), fun l2 hl2 => ?_⟩
    have e4 : Ex H3 (upd H3 l2 (.lst [.int (d - 4), .ref z, .int 5])) := Evl.Ex.new hl2
    have hl4 : upd H3 l2 (.lst [.int (d - 4), .ref z, .int 5]) l2 = some (.lst [.int (d - 4), .ref z, .int 5]) := upd_same
    generalize upd H3 l2 (.lst [.int (d - 4), .ref z, .int 5]) = H4 at e4 hl4 ⊢
    have hd4 := (e3.trans e4) _ _ hd2
    have hla : as.length = 6 := has.1.trans hlen
    refine ⟨D, l2, _, _, rfl, rfl, hd4, hl4, ?_, fun ln hln => ?_⟩
    · rw [List.length_map, hla]
      show 9 ≤ sizeLine
      decide
    generalize hns : as.map V.ref ++ [.int (d - 4), .ref z, .int 5] = ns
    have e5 : Ex H4 (upd H4 ln (.lst ns)) := Evl.Ex.new hln
    have hl5 : upd H4 ln (.lst ns) ln = some (.lst ns) := upd_same
    generalize upd H4 ln (.lst ns) = H5 at e5 hl5 ⊢
    have e25 := (e3.trans e4).trans e5
    have nums : NumsV L.R.C H5 ns (rs ++ [((d - 4 : Int) : Rat), ((0 : Int) : Rat), ((5 : Int) : Rat)]) := by
      rw [← hns]
      exact NumsV.app (has2.mono e25).nums (NumsV.cons (.inl ⟨_, rfl, rfl⟩) (NumsV.cons (.inr ⟨z, rfl, hz.mono (e4.trans e5)⟩) (NumsV.cons (.inl ⟨_, rfl, rfl⟩) NumsV.nil)))
    have hsz0 : ∀ r ∈ rs, Sz 52 r := by
      intro r hr
      obtain ⟨i, hi, rfl⟩ := List.getElem_of_mem hr
      obtain ⟨u, v, ⟨_, v0, hu, hv⟩, he⟩ := hdr i ts[i] (List.getElem?_eq_getElem (by rw [htl]; exact hi))
      rw [List.getElem?_eq_getElem hi] at he
      rw [Option.some.inj he]
      exact Sz.low hu hv v0
    have hsz : ∀ r ∈ rs ++ [((d - 4 : Int) : Rat), ((0 : Int) : Rat), ((5 : Int) : Rat)], Sz 52 r := by
      intro r hr
      rw [List.mem_append] at hr
      rcases hr with hr | hr
      · exact hsz0 r hr
      · simp only [List.mem_cons, List.not_mem_nil, or_false] at hr
        rcases hr with rfl | rfl | rfl
        · exact Sz.int (by omega) (by decide)
        · exact Sz.int (by decide) (by decide)
        · exact Sz.int (by decide) (by decide)
    have hql : (rs ++ [((d - 4 : Int) : Rat), ((0 : Int) : Rat), ((5 : Int) : Rat)]).length = 9 := by rw [List.length_append, hlen]; rfl
    generalize hqs : rs ++ [((d - 4 : Int) : Rat), ((0 : Int) : Rat), ((5 : Int) : Rat)] = qs at nums hsz hql
    -- a, b, c
    have has5 := has2.mono e25
    obtain ⟨a, b, c, as', rfl⟩ := first3 hla
    obtain ⟨x, y, z', rs', rfl⟩ := first3 hlen
    have ha5 : RtAt L.R.C H5 a x := by
      obtain ⟨r, h1, h2⟩ := has5.2 0 a rfl
      obtain rfl : x = r := by simpa using h1
      exact h2
    have hb5 : RtAt L.R.C H5 b y := by
      obtain ⟨r, h1, h2⟩ := has5.2 1 b rfl
      obtain rfl : y = r := by simpa using h1
      exact h2
    have hc5 : RtAt L.R.C H5 c z' := by
      obtain ⟨r, h1, h2⟩ := has5.2 2 c rfl
      obtain rfl : z' = r := by simpa using h1
      exact h2
    have zx := hsz0 x (by simp)
    have zy := hsz0 y (by simp)
    have zz := hsz0 z' (by simp)
    have nse : ∃ more, ns = .ref a :: .ref b :: .ref c :: more := ⟨_, hns.symm⟩
    clear hns hqs has has2 has5 hd1 hd2 hd4 hl4 hz hla hlen hsz0 hdr
    -- due
    refine ⟨(by show 2 ≤ sizeLine; decide), fun du hdu0 => ?_⟩
    have e6 : Ex H5 (upd H5 du (.tup [.int 0, .int 1])) := Evl.Ex.new hdu0
    have hdu : PrAt (upd H5 du (.tup [.int 0, .int 1])) du ((0 : Int) : Rat) := upd_same
    generalize upd H5 du (.tup [.int 0, .int 1]) = H6 at e6 hdu ⊢
    refine ⟨_, rfl, ln, rfl, ⟨_, SqL.of (e6 _ _ hl5)⟩, for_list (K := K) (a := ln) (xs := ns) (fun i σ H' => ∃ dd v, σ = [some (.ref p), some (.ref l), some (.ref ln), some (.ref dd), v, none, none, none, none, none, none] ∧ Ex H5 H' ∧ PrAt H' dd (sumL (qs.take i)))
        ⟨du, none, rfl, e6, ?_⟩ (fun i σ H' _ ⟨dd, v, _, e, _⟩ => SqL.of (e _ _ hl5)) ?_ ?_⟩
    · have h0 : sumL (qs.take 0) = ((0 : Int) : Rat) := by rw [List.take_zero, zero_rat]; rfl
      rw [h0]
      exact hdu
    · rintro i v σ H' hx ⟨dd, v', rfl, e, hdd⟩
      obtain ⟨r, hri, hv⟩ := nums.2 i v hx
      have hi : i < qs.length := (List.getElem?_eq_some_iff.mp hri).1
      refine ⟨_, rfl, _, rfl, _, r, rfl, hv.mono e, fun tn H'' e'' htn => ⟨dd, tn, _, r, 1 + (52 + 1) * i, 52, rfl, hdd.mono e'', htn, Sz.sum i qs (by omega) hsz, hsz r (List.mem_of_getElem? hri), by omega, fun d' H3' e3' hd' => ?_⟩⟩
      refine ⟨d', some v, rfl, e.trans (e''.trans e3'), ?_⟩
      rw [take_snoc hri]
      exact hd'
    rintro σ H7 ⟨dd, v, rfl, e7, hdd⟩
    rw [nums.1, List.take_length] at hdd
    have hl7 := e7 _ _ hl5
    have nums7 := nums.mono e7
    -- told
    have hsz' : ∀ r ∈ qs.reverse, Sz 52 r := fun r hr => hsz r (List.mem_reverse.mp hr)
    refine ⟨rfl, _, rfl, ln, ns, qs, 52, rfl, .inl hl7, nums7, hsz, by rw [hql]; decide, fun c1 H8 e8 hc1 => ?_⟩
    refine ⟨rfl, _, rfl, ln, ns, rfl, SqL.of (e8 _ _ hl7), fun lr hlr => ⟨lr, ns.reverse, rfl, .inl ⟨SqL.of upd_same, fun lt hlt => ?_⟩⟩⟩
    have e9 := (Evl.Ex.new (o := .lst ns.reverse) hlr).trans (Evl.Ex.new (o := .tup ns.reverse) hlt)
    have hlt9 : (upd (upd H8 lr (.lst ns.reverse)) lt (.tup ns.reverse)) lt = some (.tup ns.reverse) := upd_same
    generalize upd (upd H8 lr (.lst ns.reverse)) lt (.tup ns.reverse) = H9 at e9 hlt9 ⊢
    refine ⟨rfl, lt, ns.reverse, qs.reverse, 52, rfl, .inr hlt9, ((nums7.mono e8).mono e9).rev, hsz', by rw [List.length_reverse, hql]; decide, fun c2 H10 e10 hc2 => ?_⟩
    refine ⟨rfl, (by show 0 ≤ sizeLine; decide), fun le hle => ?_⟩
    have e11 : Ex H10 (upd H10 le (.lst [])) := Evl.Ex.new hle
    have hle11 : upd H10 le (.lst []) le = some (.lst []) := upd_same
    generalize upd H10 le (.lst []) = H11 at e11 hle11 ⊢
    refine ⟨le, [], [], 1, rfl, .inl hle11, NumsV.nil, (fun r hr => by cases hr), by decide, fun c3 H12 e12 hc3 => ?_⟩
    refine ⟨rfl, (by show 2 ≤ sizeLine; decide), fun lf hlf => ?_⟩
    have e13 : Ex H12 (upd H12 lf (.tup [.int 1, .int 2])) := Evl.Ex.new hlf
    have hlf13 : upd H12 lf (.tup [.int 1, .int 2]) lf = some (.tup [.int 1, .int 2]) := upd_same
    generalize upd H12 lf (.tup [.int 1, .int 2]) = H13 at e13 hlf13 ⊢
    refine ⟨lf, [.int 1, .int 2], [((1 : Int) : Rat), ((2 : Int) : Rat)], 2, rfl, .inr hlf13, NumsV.cons (.inl ⟨_, rfl, rfl⟩) (NumsV.cons (.inl ⟨_, rfl, rfl⟩) NumsV.nil), ?_, by decide, fun c4 H14 e14 hc4 => ?_⟩
    · intro r hr
      simp only [List.mem_cons, List.not_mem_nil, or_false] at hr
      rcases hr with rfl | rfl
      · exact Sz.int (by decide) (by decide)
      · exact Sz.int (by decide) (by decide)
    refine ⟨(by show 4 ≤ sizeLine; decide), fun lt4 hlt4 => ?_⟩
    have e15 : Ex H14 (upd H14 lt4 (.lst [.ref c1, .ref c2, .ref c3, .ref c4])) := Evl.Ex.new hlt4
    have hl15 : upd H14 lt4 (.lst [.ref c1, .ref c2, .ref c3, .ref c4]) lt4 = some (.lst [.ref c1, .ref c2, .ref c3, .ref c4]) := upd_same
    generalize upd H14 lt4 (.lst [.ref c1, .ref c2, .ref c3, .ref c4]) = H15 at e15 hl15 ⊢
    rw [sumL_rev] at hc2
    rw [three] at hc4
    have h0s : sumL ([] : List Rat) = ((0 : Int) : Rat) := by rw [zero_rat]; rfl
    rw [h0s] at hc3
    generalize sumL qs = S at hdd hc1 hc2
    have e1115 := ((e12.trans e13).trans e14).trans e15
    have hc1' : RtAt L.R.C H15 c1 S := RtAt.mono hc1 ((e9.trans e10).trans (e11.trans e1115))
    have hc2' : RtAt L.R.C H15 c2 S := RtAt.mono hc2 (e11.trans e1115)
    have hc3' : RtAt L.R.C H15 c3 ((0 : Int) : Rat) := RtAt.mono hc3 ((e13.trans e14).trans e15)
    have hc4' : RtAt L.R.C H15 c4 ((3 : Int) : Rat) := RtAt.mono hc4 e15
    have e515 := e7.trans ((e8.trans e9).trans (e10.trans (e11.trans e1115)))
    have hdd15 := hdd.mono ((e8.trans e9).trans (e10.trans (e11.trans e1115)))
    have elem : ∀ (i : Nat) (x : V), [V.ref c1, V.ref c2, V.ref c3, V.ref c4][i]? = some x → ∃ c y, x = .ref c ∧ [S, S, ((0 : Int) : Rat), ((3 : Int) : Rat)][i]? = some y ∧ RtAt L.R.C H15 c y := by
      intro i x hx
      match i, hx with
      | 0, hx => exact ⟨c1, _, by simpa using hx.symm, rfl, hc1'⟩
      | 1, hx => exact ⟨c2, _, by simpa using hx.symm, rfl, hc2'⟩
      | 2, hx => exact ⟨c3, _, by simpa using hx.symm, rfl, hc3'⟩
      | 3, hx => exact ⟨c4, _, by simpa using hx.symm, rfl, hc4'⟩
      | i + 4, hx => simp at hx
    -- [pair(..) ..] != [due, due, (0, 1), (3, 1)]
    refine ⟨_, rfl, lt4, rfl, ⟨_, SqL.of hl15⟩, fun D2 hD2 => lc_yes (K := K) (a := lt4) (xs := [.ref c1, .ref c2, .ref c3, .ref c4]) (fun i H' => Ex H15 H' ∧ ∃ ts, PrsAt H' D2 ts ([S, S, ((0 : Int) : Rat), ((3 : Int) : Rat)].take i)) ⟨Evl.Ex.new hD2, [], upd_same, rfl, fun i t h => by simp at h⟩ (fun i H' _ h => SqL.of (h.1 _ _ hl15)) ?_ ?_⟩
    · rintro i x H' hx ⟨e, ts, hts⟩
      obtain ⟨c, y, rfl, hy, hc⟩ := elem i x hx
      refine ⟨_, rfl, _, y, rfl, .inr ⟨c, rfl, hc.mono e⟩, fun tn H'' e'' htn => ⟨ts.map V.ref, e'' _ _ hts.1, ?_, Evl.Ex.mut (e.trans e'') hD2, ts ++ [tn], ?_⟩⟩
      · have h1 := hts.2.1
        have h2 : ([S, S, ((0 : Int) : Rat), ((3 : Int) : Rat)].take i).length ≤ 4 := Nat.le_trans (List.length_take_le' ..) (Nat.le_refl _)
        rw [List.length_map]
        exact small1000 (by omega)
      · rw [List.take_add_one, hy]
        exact hts.snoc e'' htn
    rintro H16 ⟨e16, tps, htps⟩
    refine ⟨_, rfl, _, rfl, (by show 2 ≤ sizeLine; decide), fun z0 hz0 => ?_⟩
    have e17 : Ex H16 (upd H16 z0 (.tup [.int 0, .int 1])) := Evl.Ex.new hz0
    have hz17 : PrAt (upd H16 z0 (.tup [.int 0, .int 1])) z0 ((0 : Int) : Rat) := upd_same
    generalize upd H16 z0 (.tup [.int 0, .int 1]) = H17 at e17 hz17 ⊢
    refine ⟨(by show 2 ≤ sizeLine; decide), fun z3 hz3 => ?_⟩
    have e18 : Ex H17 (upd H17 z3 (.tup [.int 3, .int 1])) := Evl.Ex.new hz3
    have hz18 : PrAt (upd H17 z3 (.tup [.int 3, .int 1])) z3 ((3 : Int) : Rat) := upd_same
    generalize upd H17 z3 (.tup [.int 3, .int 1]) = H18 at e18 hz18 ⊢
    refine ⟨(by show 4 ≤ sizeLine; decide), fun ld hld => ?_⟩
    have e19 : Ex H18 (upd H18 ld (.lst [.ref dd, .ref dd, .ref z0, .ref z3])) := Evl.Ex.new hld
    have hl19 : upd H18 ld (.lst [.ref dd, .ref dd, .ref z0, .ref z3]) ld = some (.lst [.ref dd, .ref dd, .ref z0, .ref z3]) := upd_same
    generalize upd H18 ld (.lst [.ref dd, .ref dd, .ref z0, .ref z3]) = H19 at e19 hl19 ⊢
    have e1519 := ((e16.trans e17).trans e18).trans e19
    have e1619 := (e17.trans e18).trans e19
    have hdd19 := hdd15.mono e1519
    have dpd : Dp K H19 (.ref ld) (.list [prD S, prD S, prD ((0 : Int) : Rat), prD ((3 : Int) : Rat)]) := .lst (SqL.of hl19) (.cons (dp_pr hdd19) (.cons (dp_pr hdd19) (.cons (dp_pr (hz17.mono (e18.trans e19))) (.cons (dp_pr (hz18.mono e19)) .nil))))
    have htps19 : PrsAt H19 D2 tps ([S, S, ((0 : Int) : Rat), ((3 : Int) : Rat)].take [V.ref c1, V.ref c2, V.ref c3, V.ref c4].length) := ⟨e1619 _ _ htps.1, htps.2.1, fun i t ht => let ⟨r, h1, h2⟩ := htps.2.2 i t ht; ⟨r, h1, h2.mono e1619⟩⟩
    refine ⟨_, _, dp_prs htps19, dpd, rfl, rfl, _, rfl, ?_⟩
    have ev : PyData.eqv (.list ([S, S, ((0 : Int) : Rat), ((3 : Int) : Rat)].map prD)) (.list [prD S, prD S, prD ((0 : Int) : Rat), prD ((3 : Int) : Rat)]) = true := eqv_self (d := .list [prD S, prD S, prD ((0 : Int) : Rat), prD ((3 : Int) : Rat)]) rfl
    have ev' : PyData.eqv (.list (([S, S, ((0 : Int) : Rat), ((3 : Int) : Rat)].take [V.ref c1, V.ref c2, V.ref c3, V.ref c4].length).map prD)) (.list [prD S, prD S, prD ((0 : Int) : Rat), prD ((3 : Int) : Rat)]) = true := ev
    rw [ev']
    refine iteF ?_
    -- not all([isinstance(..) ..])
    have hl19' := e1519 _ _ hl15
    refine ⟨_, rfl, lt4, rfl, ⟨_, SqL.of hl19'⟩, fun D3 hD3 => lc_yes (K := K) (a := lt4) (xs := [.ref c1, .ref c2, .ref c3, .ref c4]) (fun i H' => Ex H19 H' ∧ H' D3 = some (.lst (List.replicate i (.bl true)))) ⟨Evl.Ex.new hD3, upd_same⟩ (fun i H' _ h => SqL.of (h.1 _ _ hl19')) ?_ ?_⟩
    · rintro i x H' hx ⟨e, hd⟩
      have hi : i < 4 := (List.getElem?_eq_some_iff.mp hx).1
      obtain ⟨c, y, rfl, _, hc⟩ := elem i x hx
      refine ⟨_, rfl, _, _, _, _, true, rfl, .own _, tyR L.R.T (hc.mono (e1519.trans e)), L.R.T.kC, List.replicate i (.bl true), hd, (by rw [List.length_replicate]; exact small1000 (by omega)), Evl.Ex.mut e hD3, ?_⟩
      rw [upd_same, List.replicate_succ']
    rintro H20 ⟨e20, hd20⟩
    refine ⟨D3, [true, true, true, true], rfl, SqL.of hd20, true, rfl, iteF ?_⟩
    have e520 := (e515.trans e1519).trans e20
    have ha := ha5.mono e520
    have hb := hb5.mono e520
    have hc := hc5.mono e520
    have hl20 := e520 _ _ hl5
    have eP20 : ExP p H H20 := eP2.trans (ExP.of eP2.pot (e25.trans e520))
    obtain ⟨more, rfl⟩ := nse
    refine ⟨_, rfl, ln, _, _, _, rfl, rfl, SqL.of hl20, atI_nat (j := 0) rfl, _, rfl, ln, _, _, _, rfl, rfl, SqL.of hl20, atI_nat (j := 1) rfl, _, rfl, ln, _, _, _, rfl, rfl, SqL.of hl20, atI_nat (j := 2) rfl, _, _, _, rfl, ?_⟩
    clear ha5 hb5 hc5 elem hc1' hc2' hc3' hc4' hc1 hc2 hc3 hc4 dpd htps19 htps hl15 hl19 hl19' hdd hdd15 hdd19 nums nums7 hl7 hl5 hl20 hsz hsz' hd20
    -- a * (b + c) != a * b + a * c
    refine ⟨_, rfl, _, rfl, _, rfl, b, y, z', 52, 52, rfl, hb, .inr ⟨c, rfl, hc⟩, zy, zz, by decide, fun o1 H21 e21 ho1 => ?_⟩
    refine ⟨a, x, _, 52, 105, rfl, ha.mono e21, .inr ⟨o1, rfl, ho1⟩, zx, zy.add zz, by decide, fun o2 H22 e22 ho2 => ?_⟩
    have f22 := e21.trans e22
    refine ⟨_, rfl, _, rfl, a, x, y, 52, 52, rfl, ha.mono f22, .inr ⟨b, rfl, hb.mono f22⟩, zx, zy, by decide, fun o3 H23 e23 ho3 => ?_⟩
    have f23 := f22.trans e23
    refine ⟨_, rfl, _, rfl, a, x, z', 52, 52, rfl, ha.mono f23, .inr ⟨c, rfl, hc.mono f23⟩, zx, zz, by decide, fun o4 H24 e24 ho4 => ?_⟩
    refine ⟨o3, _, _, 104, 104, rfl, ho3.mono e24, .inr ⟨o4, rfl, ho4⟩, zx.mul zy, zx.mul zz, by decide, fun o5 H25 e25' ho5 => ?_⟩
    have ho2' := ho2.mono ((e23.trans e24).trans e25')
    obtain ⟨d2, g2⟩ := id ho2'
    obtain ⟨d5, g5⟩ := id ho5
    refine ⟨o2, o5, d2, d5, _, _, rfl, rfl, g2, g5, o2, _, _, rfl, ho2', .inr ⟨o5, _, rfl, ho5, _, rfl, _, rfl, ?_⟩⟩
    rw [decide_eq_true (show x * (y + z') = x * y + x * z' from Rat.mul_add ..)]
    refine iteF ?_
    have f25 := (f23.trans e24).trans e25'
    have ha25 := ha.mono f25
    have hb25 := hb.mono f25
    have hc25 := hc.mono f25
    -- (a + b) + c != a + (b + c)
    refine ⟨_, rfl, _, rfl, a, x, y, 52, 52, rfl, ha25, .inr ⟨b, rfl, hb25⟩, zx, zy, by decide, fun o6 H26 e26 ho6 => ?_⟩
    refine ⟨_, rfl, o6, _, z', 105, 52, rfl, ho6, .inr ⟨c, rfl, hc25.mono e26⟩, zx.add zy, zz, by decide, fun o7 H27 e27 ho7 => ?_⟩
    have f27 := e26.trans e27
    refine ⟨_, rfl, _, rfl, _, rfl, b, y, z', 52, 52, rfl, hb25.mono f27, .inr ⟨c, rfl, hc25.mono f27⟩, zy, zz, by decide, fun o8 H28 e28 ho8 => ?_⟩
    refine ⟨a, x, _, 52, 105, rfl, ha25.mono (f27.trans e28), .inr ⟨o8, rfl, ho8⟩, zx, zy.add zz, by decide, fun o9 H29 e29 ho9 => ?_⟩
    have ho7' := ho7.mono (e28.trans e29)
    obtain ⟨d7, g7⟩ := id ho7'
    obtain ⟨d9', g9⟩ := id ho9
    refine ⟨o7, o9, d7, d9', _, _, rfl, rfl, g7, g9, o7, _, _, rfl, ho7', .inr ⟨o9, _, rfl, ho9, _, rfl, _, rfl, ?_⟩⟩
    rw [decide_eq_true (show (x + y) + z' = x + (y + z') from Rat.add_assoc ..)]
    refine iteF ?_
    have f29 := (f27.trans e28).trans e29
    have ha29 := ha25.mono f29
    have hb29 := hb25.mono f29
    have hc29 := hc25.mono f29
    -- (a * b) * c != a * (b * c)
    refine ⟨_, rfl, _, rfl, a, x, y, 52, 52, rfl, ha29, .inr ⟨b, rfl, hb29⟩, zx, zy, by decide, fun u6 H30 e30 hu6 => ?_⟩
    refine ⟨_, rfl, u6, _, z', 104, 52, rfl, hu6, .inr ⟨c, rfl, hc29.mono e30⟩, zx.mul zy, zz, by decide, fun u7 H31 e31 hu7 => ?_⟩
    have f31 := e30.trans e31
    refine ⟨_, rfl, _, rfl, _, rfl, b, y, z', 52, 52, rfl, hb29.mono f31, .inr ⟨c, rfl, hc29.mono f31⟩, zy, zz, by decide, fun u8 H32 e32 hu8 => ?_⟩
    refine ⟨a, x, _, 52, 104, rfl, ha29.mono (f31.trans e32), .inr ⟨u8, rfl, hu8⟩, zx, zy.mul zz, by decide, fun u9 H33 e33 hu9 => ?_⟩
    have hu7' := hu7.mono (e32.trans e33)
    obtain ⟨d7', g7'⟩ := id hu7'
    obtain ⟨d9'', g9'⟩ := id hu9
    refine ⟨u7, u9, d7', d9'', _, _, rfl, rfl, g7', g9', u7, _, _, rfl, hu7', .inr ⟨u9, _, rfl, hu9, _, rfl, _, rfl, ?_⟩⟩
    rw [decide_eq_true (show (x * y) * z' = x * (y * z') from Rat.mul_assoc ..)]
    refine iteF ?_
    have f33 := (f31.trans e32).trans e33
    have hA := ha29.mono f33
    have hB := hb29.mono f33
    have fA := (f25.trans f29).trans f33
    -- a - a == Ratio(0)
    refine ⟨_, rfl, _, rfl, a, x, x, 52, 52, rfl, hA, .inr ⟨a, rfl, hA⟩, zx, zx, by decide, fun w1 H34 e34 hw1 => ?_⟩
    refine fun w2 dw xw xdw _ => ⟨w2, dw, 0, 1, rfl, by decide, one_lt, upd_same, fun H35 h35 => ⟨rfl, ?_⟩⟩
    obtain ⟨e35, hw2⟩ := made_ex xw xdw h35
    rw [of_int, zero_rat] at hw2
    have hw1' := hw1.mono e35
    obtain ⟨dw1, gw1⟩ := id hw1'
    obtain ⟨dw2, gw2⟩ := id hw2
    refine ⟨w1, dw1, _, rfl, gw1, .inr ⟨w2, dw2, _, rfl, gw2⟩, w1, _, _, rfl, hw1', .inr ⟨w2, _, rfl, hw2, true, ?_, iteT ?_⟩⟩
    · rw [decide_eq_true (show x - x = 0 from Rat.sub_self ..)]
    have f35 := e34.trans e35
    have hA5 := hA.mono f35
    have hB5 := hB.mono f35
    -- a + b - b == a
    refine ⟨_, rfl, _, rfl, a, x, y, 52, 52, rfl, hA5, .inr ⟨b, rfl, hB5⟩, zx, zy, by decide, fun w3 H36 e36 hw3 => ?_⟩
    refine ⟨_, rfl, w3, _, y, 105, 52, rfl, hw3, .inr ⟨b, rfl, hB5.mono e36⟩, zx.add zy, zy, by decide, fun w4 H37 e37 hw4 => ?_⟩
    have f37 := e36.trans e37
    have hA7 := hA5.mono f37
    have hB7 := hB5.mono f37
    obtain ⟨dw4, gw4⟩ := id hw4
    obtain ⟨dA7, gA7⟩ := id hA7
    obtain ⟨dB7, gB7⟩ := id hB7
    refine ⟨_, rfl, w4, dw4, _, rfl, gw4, .inr ⟨a, dA7, _, rfl, gA7⟩, w4, _, _, rfl, hw4, .inr ⟨a, x, rfl, hA7, true, ?_, iteT ?_⟩⟩
    · rw [decide_eq_true (show x + y - y = x by rw [Rat.sub_eq_add_neg, Rat.add_assoc, Rat.add_neg_cancel, Rat.add_zero])]
    have eP37 : ExP p H H37 := eP20.trans (ExP.of eP20.pot (fA.trans (f35.trans f37)))
    -- b.sign == 0 or (a * b).over(b) == a
    refine ⟨_, rfl, b, dB7, _, rfl, gB7, b, y, rfl, hB7, rfl, _, rfl, ?_⟩
    rw [dec_i]
    cases hz : decide (y.num.sign = 0) with
    | true => exact iteT (k _ eP37)
    | false =>
      have y0 : y ≠ 0 := fun h => of_decide_eq_false hz (by rw [h]; rfl)
      refine iteF ?_
      refine ⟨_, rfl, _, rfl, a, x, y, 52, 52, rfl, hA7, .inr ⟨b, rfl, hB7⟩, zx, zy, by decide, fun w5 H38 e38 hw5 => ?_⟩
      obtain ⟨dw5, gw5⟩ := id hw5
      refine ⟨w5, dw5, _, rfl, gw5, pf_no _ _ (by decide +kernel) (by decide +kernel), _, rfl, w5, _, _, y, 104, 52, rfl, hw5, .inr ⟨b, rfl, hB7.mono e38⟩, y0, zx.mul zy, zy, by decide, fun w6 H39 e39 hw6 => ?_⟩
      have hA9 := hA7.mono (e38.trans e39)
      obtain ⟨dw6, gw6⟩ := id hw6
      obtain ⟨dA9, gA9⟩ := id hA9
      refine ⟨_, rfl, w6, dw6, _, rfl, gw6, .inr ⟨a, dA9, _, rfl, gA9⟩, w6, _, _, rfl, hw6, .inr ⟨a, x, rfl, hA9, ?_⟩⟩
      rw [decide_eq_true (show x * y / y = x by rw [Rat.div_def, Rat.mul_assoc, Rat.mul_inv_cancel _ y0, Rat.mul_one])]
      exact k _ (eP37.trans (ExP.of eP37.pot (e38.trans e39)))
end
end K11
namespace K11
open PySem L2 GX KM
open Evl (Ex)
abbrev sRight : Stmt := top 27
section
variable {P : Program} {w : World} {K : PySem.W.Frag} {mg : Str → Option Value} {base : Heap}
theorem lc_yesR {lo : Int} {n : Nat} {te : TE} {j : Nat} {σ : L2.St} {H1 : Hp} {D : Addr} {Qd : Hp → Prop} (Pv : Nat → Hp → Prop) (h0 : Pv 0 (upd H1 D (.lst [])))
    (hs : ∀ i H, i < n → Pv i H → te ((wipe σ [j]).set j (some (.int (lo + i)))) H fun y H4 => ∃ acc, H4 D = some (.lst acc) ∧ acc.length < sizeLine ∧ Pv (i + 1) (upd H4 D (.lst (acc ++ [y])))) (hd : ∀ H, Pv n H → Qd H) :
    ∃ W : Nat → Nat → Hp → Prop, (∃ m, W 0 m (upd H1 D (.lst []))) ∧ ∀ i m H, W i m H →
      ((Itr lo n).stop i H ∧ Qd H) ∨ ((Itr lo n).go i H ∧ ∃ Nx : Hp → Prop, (∀ H', Nx H' → ∃ m', m' < m ∧ W (i + 1) m' H') ∧ ∀ x H', (Itr lo n).yld i H x H' → gName j x (wipe σ [j]) H' fun σ2 H2 => wipe σ2 [j] = wipe σ [j] ∧ tYes σ2 H2 fun b H3 =>
        if b = true then te σ2 H3 fun y H4 => ∃ acc, H4 D = some (.lst acc) ∧ acc.length < sizeLine ∧ Nx (upd H4 D (.lst (acc ++ [y]))) else Nx H3) :=
  lc_range (g := gName j) (tt := tYes) Pv h0 (fun i H hi p => ⟨set3, iteT (B := Pv (i + 1) H) (hs i H hi p)⟩) hd
theorem ExP.mut {p D : Addr} {H H' : Hp} {o : HO} (e : ExP p H H') (hD : H D = none) (hDp : D ≠ p) : ExP p H (upd H' D o) := by
  refine ⟨fun a u n h => ?_, ?_⟩
  · rw [upd_ne (ne_of_none h hD)]
    exact e.old a u n h
  · obtain ⟨x, y, h1, h2⟩ := e.pot
    exact ⟨x, y, by rw [upd_ne (fun z => hDp z.symm)]; exact h1, h2⟩
/-- a drawn pair, small -/
def SmAt (H : Hp) (t : Addr) (u v : Int) : Prop := H t = some (.tup [.int u, .int v]) ∧ v ≠ 0 ∧ u.natAbs < 2 ^ 50 ∧ v.natAbs < 2 ^ 50
theorem tup_monoP {p t : Addr} {H H' : Hp} {xs : List V} (h : H t = some (.tup xs)) (hp : PotAt H p) (e : ExP p H H') : H' t = some (.tup xs) := by
  obtain ⟨x, y, hx, _⟩ := hp
  exact e.old _ _ (ne_of h hx (by intro q; cases q)) h
theorem tup_put {D t : Addr} {H : Hp} {xs ys : List V} {o : HO} (h : H t = some (.tup xs)) (hD : H D = some (.lst ys)) : upd H D o t = some (.tup xs) := by
  rw [upd_ne (ne_of h hD (by intro q; cases q))]
  exact h
theorem DrsAt.mono {H H' : Hp} {l : Addr} {ts : List Addr} {rs : List Rat} (h : DrsAt H l ts rs) (e : Ex H H') : DrsAt H' l ts rs :=
  ⟨e _ _ h.1, h.2.1, fun i t ht => let ⟨u, v, ⟨h1, h2⟩, h3⟩ := h.2.2 i t ht; ⟨u, v, ⟨e _ _ h1, h2⟩, h3⟩⟩
theorem DrsAt.monoP {p : Addr} {H H' : Hp} {l : Addr} {ts : List Addr} {rs : List Rat} (h : DrsAt H l ts rs) (lp : l ≠ p) (hp : PotAt H p) (e : ExP p H H') : DrsAt H' l ts rs :=
  ⟨e.old _ _ lp h.1, h.2.1, fun i t ht => let ⟨u, v, ⟨h1, h2⟩, h3⟩ := h.2.2 i t ht; ⟨u, v, ⟨tup_monoP h1 hp e, h2⟩, h3⟩⟩
theorem DrsAt.elem {H : Hp} {l : Addr} {ts : List Addr} {rs : List Rat} (h : DrsAt H l ts rs) {i : Nat} {x : V} (hx : (ts.map V.ref)[i]? = some x) : ∃ t u v, x = .ref t ∧ DrAt H t u v := by
  rw [List.getElem?_map] at hx
  cases ht : ts[i]? with
  | none => rw [ht] at hx; cases hx
  | some t =>
    rw [ht] at hx
    obtain ⟨u, v, h1, _⟩ := h.2.2 i t ht
    exact ⟨t, u, v, by simpa using hx.symm, h1⟩
theorem all4 {α : Type} {ts : List α} (h : ts.length = 4) : ∃ a b c d, ts = [a, b, c, d] := by
  match ts, h with
  | [a, b, c, d], _ => exact ⟨a, b, c, d, rfl⟩
theorem pick6 {x : V} {i : Nat} (h : [V.int 0, V.int 1, V.int (-1), V.int 6, V.int (-35), V.int (10 ^ (20 : Int).toNat)][i]? = some x) : ∃ z : Int, x = .int z ∧ z.natAbs < 2 ^ 70 := by
  match i, h with
  | 0, h => exact ⟨0, by simpa using h.symm, by decide⟩
  | 1, h => exact ⟨1, by simpa using h.symm, by decide⟩
  | 2, h => exact ⟨-1, by simpa using h.symm, by decide⟩
  | 3, h => exact ⟨6, by simpa using h.symm, by decide⟩
  | 4, h => exact ⟨-35, by simpa using h.symm, by decide⟩
  | 5, h => exact ⟨100000000000000000000, by simpa using h.symm, by decide⟩
  | i + 6, h => simp at h
theorem times3 {u : Int} (h : u.natAbs < 2 ^ 50) : (u * 3).natAbs < 2 ^ 52 := by
  have e1 : (2 : Nat) ^ 52 = 4 * 2 ^ 50 := by decide
  rw [e1, Int.natAbs_mul]
  show u.natAbs * 3 < _
  omega
theorem all_true : ∀ (n : Nat) (H : Hp) (D : Addr), H D = some (.lst (List.replicate n (.bl true))) → H D = some (.lst ((List.replicate n true).map V.bl)) := by
  intro n H D h
  rw [List.map_replicate]
  exact h
theorem all_rep (n : Nat) : (List.replicate n true).all id = true := by
  induction n with
  | zero => rfl
  | succ n ih => rw [List.replicate_succ, List.all_cons, ih]; rfl
def spRight : Sp := fun vs H Q _ => ∃ p, vs = [.ref p] ∧ PotAt H p ∧ ∀ H', ExP p H H' → Q (.bl true) H'
abbrev NRi : List Str := ["_law_pot_here", "_law_drawn_here", "_law_one", "_law_number", "_law_turn", "_law_other"]
theorem scRight : FnScope NRi ["_law_pot_here"] (defScope sRight) := ⟨rfl, rfl, rfl, by decide +kernel, rfl, by decide +kernel, by decide +kernel⟩
structure RgK (L : LK P w K mg base) where
  one : Dg P w K mg base 5 "_law_one_right" ["_law_drawn_here"] spOneR
  two : Dg P w K mg base 6 "_law_two_right" ["_law_one", "_law_other"] spTwoR
  whole : Dg P w K mg base 7 "_law_whole_right" ["_law_one", "_law_number"] spWholeR
  sums : Df P w K mg base 7 "_law_sums_right" ["_law_pot_here", "_law_drawn_here"] spSumsR
  rng : mg "range" = none
theorem ok_right (L : LK P w K mg base) (G : RgK L) {f : Addr} {fd : FuncData} (F : Fun K "_law_right" "_law_right" sRight f fd) : FnG P w K mg base CX0 8 f fd ["_law_pot_here"] spRight := by
  refine okG F scRight (fun vs H Q E h => ?_) (fun cdv A outer s H vs Q E gd hr h => ?_)
  · obtain ⟨p, rfl, _⟩ := h
    rfl
  · obtain ⟨p, rfl, hp, k⟩ := h
    refine ⟨_, pss_cons (ps_setLc (i := 1) (own := [("_law_turn", 4)]) (g := gName 4) (tt := tYes) (te := tCall spDrawn [] E0 (tCons (tVar 0) tNil)) rfl scRight.nd rfl rfl (sw_true rfl rfl rfl (by decide +kernel)) (pi_range1 (by rfl) G.rng (pa_cons pe_int pa_nil)) (blkOk_by (N := NRi) (sc := defScope sRight) (by decide +kernel)) (fun _ _ _ _ _ => pg_name (i := 4) scRight.nd rfl (Or.inl rfl)) (fun _ _ _ _ _ => pts_nil)
          (fun _ _ _ _ _ => by exact pe_df L.drawn hr (pa_cons (pv 0) pa_nil)))
      (pss_cons (ps_expr (pe_bm PySem.F.plainAttrs_list PySem.F.slot_list_append PySem.F.type_list_append mt_append (pv 1) (pa_cons (pe_tup (pa_cons (pe_op op_mul (pe_ix ix_tup (pe_ix ix_list (pv 1) pe_int (fun _ _ => rfl)) pe_int (fun _ _ => rfl)) pe_int) (pa_cons (pe_op op_mul (pe_ix ix_tup (pe_ix ix_list (pv 1) pe_int (fun _ _ => rfl)) pe_int (fun _ _ => rfl)) pe_int) pa_nil))) pa_nil)))
      (pss_cons (ps_expr (pe_bm PySem.F.plainAttrs_list PySem.F.slot_list_append PySem.F.type_list_append mt_append (pv 1) (pa_cons (pe_tup (pa_cons pe_int (pa_cons (pe_ix ix_tup (pe_ix ix_list (pv 1) pe_int (fun _ _ => rfl)) pe_int (fun _ _ => rfl)) pa_nil))) pa_nil)))
      (pss_cons (ps_if (PW.pt (pw_or (pt_not (pt_val (pe_callB (cr_all rfl) (by rfl) L.N.all (by decide +kernel) (pa_cons (pe_lc (own := [("_law_one", 2)]) (g := gName 2) (tt := tYes) (te := tCall spOneR [] E0 (tCons (tVar 2) tNil)) rfl scRight.nd (pi_list (pv 1)) (blkOk_by (N := NRi) (sc := defScope sRight) (by decide +kernel)) (fun _ _ _ _ _ => pg_name (i := 2) scRight.nd rfl (Or.inl rfl)) (fun _ _ _ _ _ => pts_nil)
            (fun _ _ _ _ _ => by exact pe_dg G.one gd hr (pa_cons (pv 2) pa_nil))) pa_nil)))) (pw_or1 (pt_not (pt_val (pe_df G.sums hr (pa_cons (pv 0) (pa_cons (pv 1) pa_nil)))))))) (pss_one ps_never) pss_nil)
      (pss_cons (ps_for PassesOwn.never rfl (pi_list (pv 1)) (pg_name (i := 2) scRight.nd rfl (Or.inr rfl) (.inl rfl))
        (pss_cons (ps_if (pt_not (pt_val (pe_callB (cr_all rfl) (by rfl) L.N.all (by decide +kernel) (pa_cons (pe_lc (own := [("_law_other", 5)]) (g := gName 5) (tt := tYes) (te := tCall spTwoR [] E0 (tCons (tVar 2) (tCons (tVar 5) tNil))) rfl scRight.nd (pi_list (pv 1)) (blkOk_by (N := NRi) (sc := defScope sRight) (by decide +kernel)) (fun _ _ _ _ _ => pg_name (i := 5) scRight.nd rfl (Or.inl rfl)) (fun _ _ _ _ _ => pts_nil)
            (fun _ _ _ _ _ => by exact pe_dg G.two gd hr (pa_cons (pv 2) (pa_cons (pv 5) pa_nil)))) pa_nil)))) (pss_one ps_never) pss_nil)
        (pss_cons (ps_set (i := 3) scRight.nd rfl (Or.inl rfl) (pe_df L.pick hr (pa_cons (pv 0) (pa_cons (pe_lst (pa_cons pe_int (pa_cons pe_int (pa_cons (pe_un un_neg pe_int) (pa_cons pe_int (pa_cons (pe_un un_neg pe_int) (pa_cons (pe_op op_pow pe_int pe_int) pa_nil))))))) pa_nil))))
        (pss_one (ps_if (pt_not (pt_val (pe_dg G.whole gd hr (pa_cons (pv 2) (pa_cons (pv 3) pa_nil))))) (pss_one ps_never) pss_nil)))))
      (pss_one (ps_ret pe_bl)))))), ?_⟩
    -- drawn_here
    have hDp : ∀ D, H D = none → D ≠ p := fun D hD z => by
      obtain ⟨x, y, hx, _⟩ := hp
      rw [z, hx] at hD
      cases hD
    refine ⟨4, rfl, by decide, by decide, fun D hD => lc_yesR (fun i H' => ExP p H H' ∧ ∃ ts, H' D = some (.lst (ts.map V.ref)) ∧ ts.length = i ∧ ∀ t ∈ ts, ∃ u v, SmAt H' t u v) ⟨ExP.new hp hD, [], upd_same, rfl, fun t h => by cases h⟩ ?_ ?_⟩
    · rintro i H' hi ⟨e, ts, hd, hl, hs⟩
      have hi' : i < 4 := hi
      refine ⟨_, rfl, p, rfl, e.pot, fun t u v H'' e'' ht v0 hu hv tp => ⟨ts.map V.ref, e''.old _ _ (hDp D hD) hd, (by rw [List.length_map]; exact small1000 (by omega)), (e.trans e'').mut hD (hDp D hD), ts ++ [t], ?_, ?_, ?_⟩⟩
      · rw [upd_same, List.map_append]
        rfl
      · rw [List.length_append, hl]
        rfl
      · have hd'' := e''.old _ _ (hDp D hD) hd
        intro t' ht'
        rw [List.mem_append] at ht'
        rcases ht' with ht' | ht'
        · obtain ⟨u', v', h1, h2⟩ := hs t' ht'
          exact ⟨u', v', tup_put (tup_monoP h1 e.pot e'') hd'', h2⟩
        · obtain rfl : t' = t := by simpa using ht'
          exact ⟨u, v, tup_put ht hd'', v0, hu, hv⟩
    rintro H1 ⟨e1, ts, hd1, hl, hs⟩
    have dp := hDp D hD
    obtain ⟨t0, t1, t2, t3, rfl⟩ := all4 hl
    obtain ⟨u0, v0, ht0, n0, bu0, bv0⟩ := hs t0 (by simp)
    obtain ⟨u1, v1, ht1, n1, bu1, bv1⟩ := hs t1 (by simp)
    obtain ⟨u2, v2, ht2, n2, bu2, bv2⟩ := hs t2 (by simp)
    obtain ⟨u3, v3, ht3, n3, bu3, bv3⟩ := hs t3 (by simp)
    clear hs hl
    -- append((drawn_here[0][0] * 3, drawn_here[0][1] * 3))
    refine ⟨_, rfl, .inl ⟨rfl, _, SqL.of hd1⟩, _, rfl, D, _, _, _, rfl, rfl, SqL.of hd1, atI_nat (j := 0) rfl, t0, _, _, _, rfl, rfl, SqT.of ht0, atI_nat (j := 0) rfl, _, _, rfl, rfl, .inr ⟨by decide, by decide⟩, _, rfl, D, _, _, _, rfl, rfl, SqL.of hd1, atI_nat (j := 0) rfl, t0, _, _, _, rfl, rfl, SqT.of ht0, atI_nat (j := 1) rfl, _, _, rfl, rfl, .inr ⟨by decide, by decide⟩, (by show 2 ≤ sizeLine; decide), fun t4 ht4 => ?_⟩
    have e2 : Ex H1 (upd H1 t4 (.tup [.int (u0 * 3), .int (v0 * 3)])) := Evl.Ex.new ht4
    have ht4' : upd H1 t4 (.tup [.int (u0 * 3), .int (v0 * 3)]) t4 = some (.tup [.int (u0 * 3), .int (v0 * 3)]) := upd_same
    have hD1 : ∀ Ha, ExP p H1 Ha → ∀ o, ExP p H (upd Ha D o) := fun Ha ea o => (e1.trans ea).mut hD dp
    generalize upd H1 t4 (.tup [.int (u0 * 3), .int (v0 * 3)]) = H2 at e2 ht4' ⊢
    have hd2 := e2 _ _ hd1
    refine ⟨D, _, _, rfl, rfl, hd2, (by show 4 < sizeLine; decide), ?_⟩
    have eP3 := hD1 H2 (ExP.of e1.pot e2) (.lst [.ref t0, .ref t1, .ref t2, .ref t3, .ref t4])
    have hd3 : upd H2 D (.lst [.ref t0, .ref t1, .ref t2, .ref t3, .ref t4]) D = some (.lst [.ref t0, .ref t1, .ref t2, .ref t3, .ref t4]) := upd_same
    have g0 : upd H2 D (.lst [.ref t0, .ref t1, .ref t2, .ref t3, .ref t4]) t0 = _ := tup_put (e2 _ _ ht0) hd2
    have g1 : upd H2 D (.lst [.ref t0, .ref t1, .ref t2, .ref t3, .ref t4]) t1 = _ := tup_put (e2 _ _ ht1) hd2
    have g2 : upd H2 D (.lst [.ref t0, .ref t1, .ref t2, .ref t3, .ref t4]) t2 = _ := tup_put (e2 _ _ ht2) hd2
    have g3 : upd H2 D (.lst [.ref t0, .ref t1, .ref t2, .ref t3, .ref t4]) t3 = _ := tup_put (e2 _ _ ht3) hd2
    have g4 : upd H2 D (.lst [.ref t0, .ref t1, .ref t2, .ref t3, .ref t4]) t4 = _ := tup_put ht4' hd2
    show tNext _ _ (upd H2 D (.lst [.ref t0, .ref t1, .ref t2, .ref t3, .ref t4]))
    generalize upd H2 D (.lst [.ref t0, .ref t1, .ref t2, .ref t3, .ref t4]) = H3 at eP3 hd3 g0 g1 g2 g3 g4 ⊢
    -- append((0, drawn_here[1][1]))
    refine ⟨_, rfl, .inl ⟨rfl, _, SqL.of hd3⟩, _, rfl, D, _, _, _, rfl, rfl, SqL.of hd3, atI_nat (j := 1) rfl, t1, _, _, _, rfl, rfl, SqT.of g1, atI_nat (j := 1) rfl, (by show 2 ≤ sizeLine; decide), fun t5 ht5 => ?_⟩
    have e4 : Ex H3 (upd H3 t5 (.tup [.int 0, .int v1])) := Evl.Ex.new ht5
    have ht5' : upd H3 t5 (.tup [.int 0, .int v1]) t5 = some (.tup [.int 0, .int v1]) := upd_same
    generalize upd H3 t5 (.tup [.int 0, .int v1]) = H4 at e4 ht5' ⊢
    have hd4 := e4 _ _ hd3
    refine ⟨D, _, _, rfl, rfl, hd4, (by show 5 < sizeLine; decide), ?_⟩
    have eP5 : ExP p H (upd H4 D (.lst [.ref t0, .ref t1, .ref t2, .ref t3, .ref t4, .ref t5])) := (eP3.trans (ExP.of eP3.pot e4)).mut hD dp
    have drs : DrsAt (upd H4 D (.lst [.ref t0, .ref t1, .ref t2, .ref t3, .ref t4, .ref t5])) D [t0, t1, t2, t3, t4, t5] [Rat.divInt u0 v0, Rat.divInt u1 v1, Rat.divInt u2 v2, Rat.divInt u3 v3, Rat.divInt (u0 * 3) (v0 * 3), Rat.divInt 0 v1] := by
      refine ⟨upd_same, rfl, fun i t ht => ?_⟩
      match i, ht with
      | 0, ht => obtain rfl : t0 = t := by simpa using ht
                 exact ⟨u0, v0, ⟨tup_put (e4 _ _ g0) hd4, n0, Nat.lt_of_lt_of_le bu0 (by decide), Nat.lt_of_lt_of_le bv0 (by decide)⟩, rfl⟩
      | 1, ht => obtain rfl : t1 = t := by simpa using ht
                 exact ⟨u1, v1, ⟨tup_put (e4 _ _ g1) hd4, n1, Nat.lt_of_lt_of_le bu1 (by decide), Nat.lt_of_lt_of_le bv1 (by decide)⟩, rfl⟩
      | 2, ht => obtain rfl : t2 = t := by simpa using ht
                 exact ⟨u2, v2, ⟨tup_put (e4 _ _ g2) hd4, n2, Nat.lt_of_lt_of_le bu2 (by decide), Nat.lt_of_lt_of_le bv2 (by decide)⟩, rfl⟩
      | 3, ht => obtain rfl : t3 = t := by simpa using ht
                 exact ⟨u3, v3, ⟨tup_put (e4 _ _ g3) hd4, n3, Nat.lt_of_lt_of_le bu3 (by decide), Nat.lt_of_lt_of_le bv3 (by decide)⟩, rfl⟩
      | 4, ht => obtain rfl : t4 = t := by simpa using ht
                 exact ⟨u0 * 3, v0 * 3, ⟨tup_put (e4 _ _ g4) hd4, by omega, times3 bu0, times3 bv0⟩, rfl⟩
      | 5, ht => obtain rfl : t5 = t := by simpa using ht
                 exact ⟨0, v1, ⟨tup_put ht5' hd4, n1, by decide, Nat.lt_of_lt_of_le bv1 (by decide)⟩, rfl⟩
      | i + 6, ht => simp at ht
    show tNext _ _ (upd H4 D (.lst [.ref t0, .ref t1, .ref t2, .ref t3, .ref t4, .ref t5]))
    generalize upd H4 D (.lst [.ref t0, .ref t1, .ref t2, .ref t3, .ref t4, .ref t5]) = H5 at eP5 drs ⊢
    have l6 : [t0, t1, t2, t3, t4, t5].length = 6 := rfl
    have q6 : [Rat.divInt u0 v0, Rat.divInt u1 v1, Rat.divInt u2 v2, Rat.divInt u3 v3, Rat.divInt (u0 * 3) (v0 * 3), Rat.divInt 0 v1].length = 6 := rfl
    generalize [t0, t1, t2, t3, t4, t5] = ts at drs l6
    generalize [Rat.divInt u0 v0, Rat.divInt u1 v1, Rat.divInt u2 v2, Rat.divInt u3 v3, Rat.divInt (u0 * 3) (v0 * 3), Rat.divInt 0 v1] = rs at drs q6
    clear g0 g1 g2 g3 g4 ht4' ht5' hd1 hd2 hd3 hd4 ht0 ht1 ht2 ht3 hD1
    -- not all([one_right(one) ..])
    refine ⟨_, rfl, D, rfl, ⟨_, SqL.of drs.1⟩, fun D1 hD1 => lc_yes (K := K) (a := D) (xs := ts.map V.ref) (fun i H' => Ex H5 H' ∧ H' D1 = some (.lst (List.replicate i (.bl true)))) ⟨Evl.Ex.new hD1, upd_same⟩ (fun i H' _ h => SqL.of (h.1 _ _ drs.1)) ?_ ?_⟩
    · rintro i x H' hx ⟨e, hd⟩
      have hi : i < 6 := by
        have := (List.getElem?_eq_some_iff.mp hx).1
        rw [List.length_map, l6] at this
        exact this
      obtain ⟨t, u, v, rfl, hdr⟩ := (drs.mono e).elem hx
      refine ⟨_, rfl, t, u, v, rfl, hdr, fun H'' e'' => ⟨List.replicate i (.bl true), e'' _ _ hd, (by rw [List.length_replicate]; exact small1000 (by omega)), Evl.Ex.mut (e.trans e'') hD1, ?_⟩⟩
      rw [upd_same, List.replicate_succ']
    rintro H6 ⟨e6, hd6⟩
    refine ⟨D1, List.replicate (ts.map V.ref).length true, rfl, SqL.of (all_true _ _ _ hd6), true, ?_, iteF ?_⟩
    · rw [all_rep]
    have eP6 := eP5.trans (ExP.of eP5.pot e6)
    have drs6 := drs.mono e6
    -- not sums_right(pot_here, drawn_here)
    refine ⟨_, rfl, _, rfl, p, D, ts, rs, rfl, eP6.pot, dp, drs6, q6, fun H7 e7 => ⟨true, rfl, iteF ?_⟩⟩
    have eP7 := eP6.trans e7
    have drs7 := drs6.monoP dp eP6.pot e7
    refine ⟨_, rfl, D, rfl, ⟨_, SqL.of drs7.1⟩, for_list (K := K) (a := D) (xs := ts.map V.ref) (fun i σ H' => ∃ w2 w3, σ = [some (.ref p), some (.ref D), w2, w3, none, none] ∧ ExP p H H' ∧ DrsAt H' D ts rs)
      ⟨none, none, rfl, eP7, drs7⟩ (fun i σ H' _ ⟨w2, w3, _, _, h⟩ => SqL.of h.1) ?_ ?_⟩
    · rintro i x σ H8 hx ⟨w2, w3, rfl, eP8, drs8⟩
      obtain ⟨t, u, v, rfl, hdr⟩ := drs8.elem hx
      refine ⟨_, rfl, D, rfl, ⟨_, SqL.of drs8.1⟩, fun D2 hD2 => lc_yes (K := K) (a := D) (xs := ts.map V.ref) (fun i H' => Ex H8 H' ∧ H' D2 = some (.lst (List.replicate i (.bl true)))) ⟨Evl.Ex.new hD2, upd_same⟩ (fun i H' _ h => SqL.of (h.1 _ _ drs8.1)) ?_ ?_⟩
      · rintro i' x' H' hx' ⟨e, hd⟩
        have hi : i' < 6 := by
          have := (List.getElem?_eq_some_iff.mp hx').1
          rw [List.length_map, l6] at this
          exact this
        obtain ⟨t', u', v', rfl, hdr'⟩ := (drs8.mono e).elem hx'
        refine ⟨_, rfl, _, rfl, t, u, v, t', u', v', rfl, ⟨e _ _ hdr.1, hdr.2⟩, hdr', fun H'' e'' => ⟨List.replicate i' (.bl true), e'' _ _ hd, (by rw [List.length_replicate]; exact small1000 (by omega)), Evl.Ex.mut (e.trans e'') hD2, ?_⟩⟩
        rw [upd_same, List.replicate_succ']
      rintro H9 ⟨e9, hd9⟩
      refine ⟨D2, List.replicate (ts.map V.ref).length true, rfl, SqL.of (all_true _ _ _ hd9), true, ?_, iteF ?_⟩
      · rw [all_rep]
      have eP9 := eP8.trans (ExP.of eP8.pot e9)
      have drs9 := drs8.mono e9
      have hdr9 : DrAt H9 t u v := ⟨e9 _ _ hdr.1, hdr.2⟩
      -- number = pick(pot_here, [..])
      refine ⟨_, rfl, _, rfl, _, rfl, _, _, rfl, rfl, ⟨by decide, by decide, by decide⟩, (by show 6 ≤ sizeLine; decide), fun lp hlp => ?_⟩
      have hlpp : lp ≠ p := fun z => by
        obtain ⟨x, y, hx, _⟩ := eP9.pot
        rw [z, hx] at hlp
        cases hlp
      refine ⟨p, lp, _, rfl, eP9.pot.mono (Evl.Ex.new hlp), upd_same, hlpp, by decide, by decide, fun j x' H10 hx' e10 => ?_⟩
      obtain ⟨n, rfl, hn⟩ := pick6 hx'
      have eL : Ex H9 (upd H9 lp (.lst [.int 0, .int 1, .int (-1), .int 6, .int (-35), .int (10 ^ (20 : Int).toNat)])) := Evl.Ex.new hlp
      have e910 : ExP p H9 H10 := (ExP.of eP9.pot eL).trans e10
      have eP10 := eP9.trans e910
      have drs10 := drs9.monoP dp eP9.pot e910
      have hdr10 : DrAt H10 t u v := ⟨tup_monoP hdr9.1 eP9.pot e910, hdr9.2⟩
      -- not whole_right(one, number)
      refine ⟨_, rfl, _, rfl, t, u, v, n, rfl, hdr10, hn, fun H11 e11 => ⟨true, rfl, iteF ?_⟩⟩
      exact ⟨_, _, rfl, eP10.trans (ExP.of eP10.pot e11), drs10.mono e11⟩
    · rintro σ H8 ⟨w2, w3, rfl, eP8, drs8⟩
      exact k _ eP8
end
end K11
namespace K11
open PySem L2 GX KM
open Evl (Ex)
abbrev sLaw : Stmt := top 28
section
variable {P : Program} {w : World} {K : PySem.W.Frag} {mg : Str → Option Value} {base : Heap}
def spLaw (K : PySem.W.Frag) : Sp := fun vs H Q _ => ∃ (a : Addr) (ns : List Int), vs = [.ref a] ∧ SqL K H a (ns.map V.int) ∧ ns.length ≤ 63 ∧ ∀ H', Q (.bl true) H'
abbrev NLa : List Str := ["_law_script", "_law_k"]
theorem scLaw : FnScope NLa ["_law_script"] (defScope sLaw) := ⟨rfl, rfl, rfl, by decide +kernel, rfl, by decide +kernel, by decide +kernel⟩
structure LwK (P : Program) (w : World) (K : PySem.W.Frag) (mg : Str → Option Value) (base : Heap) where
  N : Bn mg
  rng : mg "range" = none
  min : mg "min" = none
  pot : Df P w K mg base 1 "_law_pot" ["_law_script", "_law_k"] (spPot K)
  right : Dg P w K mg base 8 "_law_right" ["_law_pot_here"] spRight
theorem ok_law (L : LwK P w K mg base) {f : Addr} {fd : FuncData} (F : Fun K "law" "law" sLaw f fd) : FnG P w K mg base CX0 9 f fd ["_law_script"] (spLaw K) := by
  refine okG F scLaw (fun vs H Q E h => ?_) (fun cdv A outer s H vs Q E gd hr h => ?_)
  · obtain ⟨a, ns, rfl, _⟩ := h
    rfl
  · obtain ⟨a, ns, rfl, hs, hl, k⟩ := h
    refine ⟨_, pss_one (ps_ret (pe_callB (cr_all rfl) (by rfl) L.N.all (by decide +kernel) (pa_cons (pe_lc (own := [("_law_k", 1)]) (g := gName 1) (tt := tYes) (te := tCall spRight [] E0 (tCons (tCall (spPot K) [] E0 (tCons (tVar 0) (tCons (tVar 1) tNil))) tNil)) rfl scLaw.nd
      (pi_range1 (by rfl) L.rng (pa_cons (pe_callB (call_max2 rfl) (by rfl) L.N.max (by decide +kernel) (pa_cons pe_int (pa_cons (pe_callB (call_min2 rfl) (by rfl) L.min (by decide +kernel) (pa_cons pe_int (pa_cons (pe_callB call_len_seq (by rfl) L.N.len PySem.boot_len (pa_cons (pv 0) pa_nil)) pa_nil))) pa_nil))) pa_nil))
      (blkOk_by (N := NLa) (sc := defScope sLaw) (by decide +kernel)) (fun _ _ _ _ _ => pg_name (i := 1) scLaw.nd rfl (Or.inl rfl)) (fun _ _ _ _ _ => pts_nil)
      (fun _ _ _ _ _ => by exact pe_dg L.right gd hr (pa_cons (pe_df L.pot hr (pa_cons (pv 0) (pa_cons (pv 1) pa_nil))) pa_nil))) pa_nil))), ?_⟩
    refine ⟨_, rfl, a, _, rfl, .inl hs, _, _, rfl, _, _, rfl, ?_⟩
    rw [List.length_map]
    obtain ⟨j, ej, j1, j2⟩ : ∃ j : Int, (if (if (ns.length : Int) < 3 then (ns.length : Int) else 3) > 1 then (if (ns.length : Int) < 3 then (ns.length : Int) else 3) else 1) = j ∧ 0 ≤ j ∧ j ≤ 3 := by
      refine ⟨_, rfl, ?_, ?_⟩
      · split
        · omega
        · decide
      · split
        · split <;> omega
        · decide
    rw [ej]
    refine ⟨j, rfl, by omega, by omega, fun D hD => lc_yesR (fun i H' => Ex H H' ∧ H' D = some (.lst (List.replicate i (.bl true)))) ⟨Evl.Ex.new hD, upd_same⟩ ?_ ?_⟩
    · rintro i H' hi ⟨e, hd⟩
      have hi' : i < 3 := by omega
      refine ⟨_, rfl, _, rfl, a, ns, (0 : Int) + i, rfl, L2.Same.seq e hs, by omega, by omega, fun p H1 hp e1 pot => ?_⟩
      refine ⟨p, rfl, pot, fun H2 e2 => ?_⟩
      have e02 : ∀ b o, H' b = some o → H2 b = some o := fun b o h => e2.old b o (ne_of_none h hp) (e1 b o h)
      refine ⟨List.replicate i (.bl true), e02 _ _ hd, (by rw [List.length_replicate]; exact small1000 (by omega)), Evl.Ex.mut (e.trans e02) hD, ?_⟩
      rw [upd_same, List.replicate_succ']
    · rintro H1 ⟨e1, hd⟩
      refine ⟨D, List.replicate j.toNat true, rfl, SqL.of (all_true _ _ _ hd), ?_⟩
      rw [all_rep]
      exact k _
end
end K11
namespace K11
open PySem L2 GX KM
open Evl (Ex)
/-! ### what the top has written -/
theorem kit_ref {K : PySem.W.Frag} {C : Addr} {t : Value} {b : Bool} (ht : (t == Value.ref C) = false) (ic : PySem.W.isClsIn K C = true) (ty : PySem.W.typeIn K (.ref C) = some (.type "type")) (s : PySem.W.subIn K t (.ref C) = some b) : PySem.W.kitOne K t (.ref C) = some b := by
  unfold PySem.W.kitOne PySem.W.kitCls
  have ic' : (PySem.W.clsIn K C).isSome = true := ic
  rw [ht]
  show (if ((PySem.W.clsIn K C).isSome && PySem.W.typeIn K (.ref C) == some (.type "type")) = true then PySem.W.subIn K t (.ref C) else none) = some b
  rw [ic', ty]
  exact s
theorem kit_same {K : PySem.W.Frag} {C : Addr} : PySem.W.kitOne K (.ref C) (.ref C) = some true := by
  unfold PySem.W.kitOne
  rw [if_pos (beq_self_eq_true _)]
theorem kit_int {K : PySem.W.Frag} {C : Addr} {b : Bool} (ht : (Value.ref C == Value.type "int") = false) (s : PySem.W.subIn K (.ref C) (.type "int") = some b) : PySem.W.kitOne K (.ref C) (.type "int") = some b := by
  unfold PySem.W.kitOne PySem.W.kitCls
  have hm : PySem.W.kitMeta "int" = true := by decide +kernel
  rw [ht]
  show (if PySem.W.kitMeta "int" = true then PySem.W.subIn K (.ref C) (.type "int") else none) = some b
  rw [hm]
  exact s
def swp {α : Type} (us ws : List α) : List α :=
  match us, ws with
  | [x], [b, t] => [x, t, b]
  | _, _ => []
theorem kwrel {vs zs : List V} {us ws : List Value} (h : Vals vs us) (g : Vals zs ws) : Vals (swp vs zs) (swp us ws) := by
  match vs, us, zs, ws, h, g with
  | _, _, _, _, .cons a .nil, .cons b (.cons c .nil) => exact .cons a (.cons c (.cons b .nil))
  | _, _, _, _, .nil, _ => exact .nil
  | _, _, _, _, .cons _ (.cons _ _), _ => exact .nil
  | _, _, _, _, .cons _ .nil, .nil => exact .nil
  | _, _, _, _, .cons _ .nil, .cons _ .nil => exact .nil
  | _, _, _, _, .cons _ .nil, .cons _ (.cons _ (.cons _ _)) => exact .nil
theorem all_mk {l : PySem.W.OpenLaw} {w : World} {K : PySem.W.Frag} {h : Heap} {mg : Str → Option Value} {fa : Addr} (X : K.In h) (G : h.Ns mainGlobals mg) (hfa : mg "law" = some (.ref fa))
    {C Tini fisI fasR fisL fdra fpic flow fpai fplu ftim fism fsho fpot fdrn fone ftwo fwho fsum frig flaw fadd fsub fmul fneg fsiz fove fbel fmos fequ fstr frep frad frsu frmu ptop ftop pbot fbot psig fsig piwh fiwh ptot ftot fini : Addr}
    {ocisI kVisI dcisI pmisI cdisI ctisI ocasR kVasR dcasR pmasR cdasR ctasR ocisL kVisL dcisL pmisL cdisL ctisL ocdra kVdra dcdra pmdra cddra ctdra ocpic kVpic dcpic pmpic cdpic ctpic oclow kVlow dclow pmlow cdlow ctlow ocpai kVpai dcpai pmpai cdpai ctpai ocplu kVplu dcplu pmplu cdplu ctplu octim kVtim dctim pmtim cdtim cttim ocism kVism dcism pmism cdism ctism ocsho kVsho dcsho pmsho cdsho ctsho ocpot kVpot dcpot pmpot cdpot ctpot ocdrn kVdrn dcdrn pmdrn cddrn ctdrn ocone kVone dcone pmone cdone ctone octwo kVtwo dctwo pmtwo cdtwo cttwo ocwho kVwho dcwho pmwho cdwho ctwho ocsum kVsum dcsum pmsum cdsum ctsum ocrig kVrig dcrig pmrig cdrig ctrig oclaw kVlaw dclaw pmlaw cdlaw ctlaw ocadd kVadd dcadd pmadd cdadd ctadd ocsub kVsub dcsub pmsub cdsub ctsub ocmul kVmul dcmul pmmul cdmul ctmul ocneg kVneg dcneg pmneg cdneg ctneg ocsiz kVsiz dcsiz pmsiz cdsiz ctsiz ocove kVove dcove pmove cdove ctove ocbel kVbel dcbel pmbel cdbel ctbel ocmos kVmos dcmos pmmos cdmos ctmos ocequ kVequ dcequ pmequ cdequ ctequ ocstr kVstr dcstr pmstr cdstr ctstr ocrep kVrep dcrep pmrep cdrep ctrep ocrad kVrad dcrad pmrad cdrad ctrad ocrsu kVrsu dcrsu pmrsu cdrsu ctrsu ocrmu kVrmu dcrmu pmrmu cdrmu ctrmu octop kVtop dctop pmtop cdtop cttop ocbot kVbot dcbot pmbot cdbot ctbot ocsig kVsig dcsig pmsig cdsig ctsig ociwh kViwh dciwh pmiwh cdiwh ctiwh octot kVtot dctot pmtot cdtot cttot ocini kVini dcini pmini cdini ctini ocT : Value}
    {odisI anisI odasR anasR odisL anisL oddra andra odpic anpic odlow anlow odpai anpai odplu anplu odtim antim odism anism odsho ansho odpot anpot oddrn andrn odone anone odtwo antwo odwho anwho odsum ansum odrig anrig odlaw anlaw odadd anadd odsub ansub odmul anmul odneg anneg odsiz ansiz odove anove odbel anbel odmos anmos odequ anequ odstr anstr odrep anrep odrad anrad odrsu anrsu odrmu anrmu odtop antop odbot anbot odsig ansig odiwh aniwh odtot antot odini anini odT : Option Addr}
    {slisI slasR slisL sldra slpic sllow slpai slplu sltim slism slsho slpot sldrn slone sltwo slwho slsum slrig sllaw sladd slsub slmul slneg slsiz slove slbel slmos slequ slstr slrep slrad slrsu slrmu sltop slbot slsig sliwh sltot slini slT : Array (Option Value)}
    {rstop rsbot rssig rsiwh rstot : List Value} {tkT : Tok} {nT : Nat} {foad road fosu rosu fomu romu : Option Value}
    (aC : PySem.W.nsIn K mainGlobals "Ratio" = some (some (.ref C)))
    (aisI : PySem.W.nsIn K mainGlobals "is_integer" = some (some (.ref fisI)))
    (lisI : K.lookup fisI = some ⟨ocisI, odisI, .func (PySem.W.fnOf "is_integer" "is_integer" (defArgs sIsI) (defBody sIsI) (defScope sIsI) .none kVisI dcisI pmisI anisI cdisI ctisI), slisI⟩)
    (cisI : PySem.W.codeIn K cdisI "is_integer" = true)
    (kisI : PySem.W.keepIn K (.ref fisI) = true)
    (aasR : PySem.W.nsIn K mainGlobals "as_ratio" = some (some (.ref fasR)))
    (lasR : K.lookup fasR = some ⟨ocasR, odasR, .func (PySem.W.fnOf "as_ratio" "as_ratio" (defArgs sAsR) (defBody sAsR) (defScope sAsR) .none kVasR dcasR pmasR anasR cdasR ctasR), slasR⟩)
    (casR : PySem.W.codeIn K cdasR "as_ratio" = true)
    (kasR : PySem.W.keepIn K (.ref fasR) = true)
    (aisL : PySem.W.nsIn K mainGlobals "is_list" = some (some (.ref fisL)))
    (lisL : K.lookup fisL = some ⟨ocisL, odisL, .func (PySem.W.fnOf "is_list" "is_list" (defArgs sIsL) (defBody sIsL) (defScope sIsL) .none kVisL dcisL pmisL anisL cdisL ctisL), slisL⟩)
    (cisL : PySem.W.codeIn K cdisL "is_list" = true)
    (kisL : PySem.W.keepIn K (.ref fisL) = true)
    (adra : PySem.W.nsIn K mainGlobals "_law_draw" = some (some (.ref fdra)))
    (ldra : K.lookup fdra = some ⟨ocdra, oddra, .func (PySem.W.fnOf "_law_draw" "_law_draw" (defArgs sDraw) (defBody sDraw) (defScope sDraw) .none kVdra dcdra pmdra andra cddra ctdra), sldra⟩)
    (cdra : PySem.W.codeIn K cddra "_law_draw" = true)
    (kdra : PySem.W.keepIn K (.ref fdra) = true)
    (apic : PySem.W.nsIn K mainGlobals "_law_pick" = some (some (.ref fpic)))
    (lpic : K.lookup fpic = some ⟨ocpic, odpic, .func (PySem.W.fnOf "_law_pick" "_law_pick" (defArgs sPick) (defBody sPick) (defScope sPick) .none kVpic dcpic pmpic anpic cdpic ctpic), slpic⟩)
    (cpic : PySem.W.codeIn K cdpic "_law_pick" = true)
    (kpic : PySem.W.keepIn K (.ref fpic) = true)
    (alow : PySem.W.nsIn K mainGlobals "_law_low" = some (some (.ref flow)))
    (llow : K.lookup flow = some ⟨oclow, odlow, .func (PySem.W.fnOf "_law_low" "_law_low" (defArgs sLow) (defBody sLow) (defScope sLow) .none kVlow dclow pmlow anlow cdlow ctlow), sllow⟩)
    (clow : PySem.W.codeIn K cdlow "_law_low" = true)
    (klow : PySem.W.keepIn K (.ref flow) = true)
    (apai : PySem.W.nsIn K mainGlobals "_law_pair" = some (some (.ref fpai)))
    (lpai : K.lookup fpai = some ⟨ocpai, odpai, .func (PySem.W.fnOf "_law_pair" "_law_pair" (defArgs sPair) (defBody sPair) (defScope sPair) .none kVpai dcpai pmpai anpai cdpai ctpai), slpai⟩)
    (cpai : PySem.W.codeIn K cdpai "_law_pair" = true)
    (kpai : PySem.W.keepIn K (.ref fpai) = true)
    (aplu : PySem.W.nsIn K mainGlobals "_law_plus" = some (some (.ref fplu)))
    (lplu : K.lookup fplu = some ⟨ocplu, odplu, .func (PySem.W.fnOf "_law_plus" "_law_plus" (defArgs sPlus) (defBody sPlus) (defScope sPlus) .none kVplu dcplu pmplu anplu cdplu ctplu), slplu⟩)
    (cplu : PySem.W.codeIn K cdplu "_law_plus" = true)
    (kplu : PySem.W.keepIn K (.ref fplu) = true)
    (atim : PySem.W.nsIn K mainGlobals "_law_times" = some (some (.ref ftim)))
    (ltim : K.lookup ftim = some ⟨octim, odtim, .func (PySem.W.fnOf "_law_times" "_law_times" (defArgs sTimes) (defBody sTimes) (defScope sTimes) .none kVtim dctim pmtim antim cdtim cttim), sltim⟩)
    (ctim : PySem.W.codeIn K cdtim "_law_times" = true)
    (ktim : PySem.W.keepIn K (.ref ftim) = true)
    (aism : PySem.W.nsIn K mainGlobals "_law_is_most" = some (some (.ref fism)))
    (lism : K.lookup fism = some ⟨ocism, odism, .func (PySem.W.fnOf "_law_is_most" "_law_is_most" (defArgs sIsMost) (defBody sIsMost) (defScope sIsMost) .none kVism dcism pmism anism cdism ctism), slism⟩)
    (cism : PySem.W.codeIn K cdism "_law_is_most" = true)
    (kism : PySem.W.keepIn K (.ref fism) = true)
    (asho : PySem.W.nsIn K mainGlobals "_law_shown" = some (some (.ref fsho)))
    (lsho : K.lookup fsho = some ⟨ocsho, odsho, .func (PySem.W.fnOf "_law_shown" "_law_shown" (defArgs sShown) (defBody sShown) (defScope sShown) .none kVsho dcsho pmsho ansho cdsho ctsho), slsho⟩)
    (csho : PySem.W.codeIn K cdsho "_law_shown" = true)
    (ksho : PySem.W.keepIn K (.ref fsho) = true)
    (apot : PySem.W.nsIn K mainGlobals "_law_pot" = some (some (.ref fpot)))
    (lpot : K.lookup fpot = some ⟨ocpot, odpot, .func (PySem.W.fnOf "_law_pot" "_law_pot" (defArgs sPot) (defBody sPot) (defScope sPot) .none kVpot dcpot pmpot anpot cdpot ctpot), slpot⟩)
    (cpot : PySem.W.codeIn K cdpot "_law_pot" = true)
    (kpot : PySem.W.keepIn K (.ref fpot) = true)
    (adrn : PySem.W.nsIn K mainGlobals "_law_drawn" = some (some (.ref fdrn)))
    (ldrn : K.lookup fdrn = some ⟨ocdrn, oddrn, .func (PySem.W.fnOf "_law_drawn" "_law_drawn" (defArgs sDrawn) (defBody sDrawn) (defScope sDrawn) .none kVdrn dcdrn pmdrn andrn cddrn ctdrn), sldrn⟩)
    (cdrn : PySem.W.codeIn K cddrn "_law_drawn" = true)
    (kdrn : PySem.W.keepIn K (.ref fdrn) = true)
    (aone : PySem.W.nsIn K mainGlobals "_law_one_right" = some (some (.ref fone)))
    (lone : K.lookup fone = some ⟨ocone, odone, .func (PySem.W.fnOf "_law_one_right" "_law_one_right" (defArgs sOneR) (defBody sOneR) (defScope sOneR) .none kVone dcone pmone anone cdone ctone), slone⟩)
    (cone : PySem.W.codeIn K cdone "_law_one_right" = true)
    (kone : PySem.W.keepIn K (.ref fone) = true)
    (atwo : PySem.W.nsIn K mainGlobals "_law_two_right" = some (some (.ref ftwo)))
    (ltwo : K.lookup ftwo = some ⟨octwo, odtwo, .func (PySem.W.fnOf "_law_two_right" "_law_two_right" (defArgs sTwoR) (defBody sTwoR) (defScope sTwoR) .none kVtwo dctwo pmtwo antwo cdtwo cttwo), sltwo⟩)
    (ctwo : PySem.W.codeIn K cdtwo "_law_two_right" = true)
    (ktwo : PySem.W.keepIn K (.ref ftwo) = true)
    (awho : PySem.W.nsIn K mainGlobals "_law_whole_right" = some (some (.ref fwho)))
    (lwho : K.lookup fwho = some ⟨ocwho, odwho, .func (PySem.W.fnOf "_law_whole_right" "_law_whole_right" (defArgs sWholeR) (defBody sWholeR) (defScope sWholeR) .none kVwho dcwho pmwho anwho cdwho ctwho), slwho⟩)
    (cwho : PySem.W.codeIn K cdwho "_law_whole_right" = true)
    (kwho : PySem.W.keepIn K (.ref fwho) = true)
    (asum : PySem.W.nsIn K mainGlobals "_law_sums_right" = some (some (.ref fsum)))
    (lsum : K.lookup fsum = some ⟨ocsum, odsum, .func (PySem.W.fnOf "_law_sums_right" "_law_sums_right" (defArgs sSumsR) (defBody sSumsR) (defScope sSumsR) .none kVsum dcsum pmsum ansum cdsum ctsum), slsum⟩)
    (csum : PySem.W.codeIn K cdsum "_law_sums_right" = true)
    (ksum : PySem.W.keepIn K (.ref fsum) = true)
    (arig : PySem.W.nsIn K mainGlobals "_law_right" = some (some (.ref frig)))
    (lrig : K.lookup frig = some ⟨ocrig, odrig, .func (PySem.W.fnOf "_law_right" "_law_right" (defArgs sRight) (defBody sRight) (defScope sRight) .none kVrig dcrig pmrig anrig cdrig ctrig), slrig⟩)
    (crig : PySem.W.codeIn K cdrig "_law_right" = true)
    (krig : PySem.W.keepIn K (.ref frig) = true)
    (alaw : PySem.W.nsIn K mainGlobals "law" = some (some (.ref flaw)))
    (llaw : K.lookup flaw = some ⟨oclaw, odlaw, .func (PySem.W.fnOf "law" "law" (defArgs sLaw) (defBody sLaw) (defScope sLaw) .none kVlaw dclaw pmlaw anlaw cdlaw ctlaw), sllaw⟩)
    (claw : PySem.W.codeIn K cdlaw "law" = true)
    (klaw : PySem.W.keepIn K (.ref flaw) = true)
    (aadd : PySem.W.findIn K (.ref C) "__add__" = some (some (.ref fadd)))
    (iadd : PySem.W.isFn K (.ref fadd) = true)
    (ladd : K.lookup fadd = some ⟨ocadd, odadd, .func (PySem.W.fnOf "__add__" "Ratio.__add__" (defArgs sAdd) (defBody sAdd) (defScope sAdd) .none kVadd dcadd pmadd anadd cdadd ctadd), sladd⟩)
    (cadd : PySem.W.codeIn K cdadd "Ratio.__add__" = true)
    (kadd : PySem.W.keepIn K (.ref fadd) = true)
    (asub : PySem.W.findIn K (.ref C) "__sub__" = some (some (.ref fsub)))
    (isub : PySem.W.isFn K (.ref fsub) = true)
    (lsub : K.lookup fsub = some ⟨ocsub, odsub, .func (PySem.W.fnOf "__sub__" "Ratio.__sub__" (defArgs sSub) (defBody sSub) (defScope sSub) .none kVsub dcsub pmsub ansub cdsub ctsub), slsub⟩)
    (csub : PySem.W.codeIn K cdsub "Ratio.__sub__" = true)
    (ksub : PySem.W.keepIn K (.ref fsub) = true)
    (amul : PySem.W.findIn K (.ref C) "__mul__" = some (some (.ref fmul)))
    (imul : PySem.W.isFn K (.ref fmul) = true)
    (lmul : K.lookup fmul = some ⟨ocmul, odmul, .func (PySem.W.fnOf "__mul__" "Ratio.__mul__" (defArgs sMul) (defBody sMul) (defScope sMul) .none kVmul dcmul pmmul anmul cdmul ctmul), slmul⟩)
    (cmul : PySem.W.codeIn K cdmul "Ratio.__mul__" = true)
    (kmul : PySem.W.keepIn K (.ref fmul) = true)
    (aneg : PySem.W.findIn K (.ref C) "__neg__" = some (some (.ref fneg)))
    (ineg : PySem.W.isFn K (.ref fneg) = true)
    (lneg : K.lookup fneg = some ⟨ocneg, odneg, .func (PySem.W.fnOf "__neg__" "Ratio.__neg__" (defArgs sNeg) (defBody sNeg) (defScope sNeg) .none kVneg dcneg pmneg anneg cdneg ctneg), slneg⟩)
    (cneg : PySem.W.codeIn K cdneg "Ratio.__neg__" = true)
    (kneg : PySem.W.keepIn K (.ref fneg) = true)
    (asiz : PySem.W.findIn K (.ref C) "size" = some (some (.ref fsiz)))
    (isiz : PySem.W.isFn K (.ref fsiz) = true)
    (lsiz : K.lookup fsiz = some ⟨ocsiz, odsiz, .func (PySem.W.fnOf "size" "Ratio.size" (defArgs sSize) (defBody sSize) (defScope sSize) .none kVsiz dcsiz pmsiz ansiz cdsiz ctsiz), slsiz⟩)
    (csiz : PySem.W.codeIn K cdsiz "Ratio.size" = true)
    (ksiz : PySem.W.keepIn K (.ref fsiz) = true)
    (aove : PySem.W.findIn K (.ref C) "over" = some (some (.ref fove)))
    (iove : PySem.W.isFn K (.ref fove) = true)
    (love : K.lookup fove = some ⟨ocove, odove, .func (PySem.W.fnOf "over" "Ratio.over" (defArgs sOver) (defBody sOver) (defScope sOver) .none kVove dcove pmove anove cdove ctove), slove⟩)
    (cove : PySem.W.codeIn K cdove "Ratio.over" = true)
    (kove : PySem.W.keepIn K (.ref fove) = true)
    (abel : PySem.W.findIn K (.ref C) "is_below" = some (some (.ref fbel)))
    (ibel : PySem.W.isFn K (.ref fbel) = true)
    (lbel : K.lookup fbel = some ⟨ocbel, odbel, .func (PySem.W.fnOf "is_below" "Ratio.is_below" (defArgs sBelow) (defBody sBelow) (defScope sBelow) .none kVbel dcbel pmbel anbel cdbel ctbel), slbel⟩)
    (cbel : PySem.W.codeIn K cdbel "Ratio.is_below" = true)
    (kbel : PySem.W.keepIn K (.ref fbel) = true)
    (amos : PySem.W.findIn K (.ref C) "is_at_most" = some (some (.ref fmos)))
    (imos : PySem.W.isFn K (.ref fmos) = true)
    (lmos : K.lookup fmos = some ⟨ocmos, odmos, .func (PySem.W.fnOf "is_at_most" "Ratio.is_at_most" (defArgs sMost) (defBody sMost) (defScope sMost) .none kVmos dcmos pmmos anmos cdmos ctmos), slmos⟩)
    (cmos : PySem.W.codeIn K cdmos "Ratio.is_at_most" = true)
    (kmos : PySem.W.keepIn K (.ref fmos) = true)
    (aequ : PySem.W.findIn K (.ref C) "__eq__" = some (some (.ref fequ)))
    (iequ : PySem.W.isFn K (.ref fequ) = true)
    (lequ : K.lookup fequ = some ⟨ocequ, odequ, .func (PySem.W.fnOf "__eq__" "Ratio.__eq__" (defArgs sEq) (defBody sEq) (defScope sEq) .none kVequ dcequ pmequ anequ cdequ ctequ), slequ⟩)
    (cequ : PySem.W.codeIn K cdequ "Ratio.__eq__" = true)
    (kequ : PySem.W.keepIn K (.ref fequ) = true)
    (astr : PySem.W.findIn K (.ref C) "__str__" = some (some (.ref fstr)))
    (istr : PySem.W.isFn K (.ref fstr) = true)
    (lstr : K.lookup fstr = some ⟨ocstr, odstr, .func (PySem.W.fnOf "__str__" "Ratio.__str__" (defArgs sStr) (defBody sStr) (defScope sStr) .none kVstr dcstr pmstr anstr cdstr ctstr), slstr⟩)
    (cstr : PySem.W.codeIn K cdstr "Ratio.__str__" = true)
    (kstr : PySem.W.keepIn K (.ref fstr) = true)
    (arep : PySem.W.findIn K (.ref C) "__repr__" = some (some (.ref frep)))
    (irep : PySem.W.isFn K (.ref frep) = true)
    (lrep : K.lookup frep = some ⟨ocrep, odrep, .func (PySem.W.fnOf "__repr__" "Ratio.__repr__" (defArgs sRepr) (defBody sRepr) (defScope sRepr) .none kVrep dcrep pmrep anrep cdrep ctrep), slrep⟩)
    (crep : PySem.W.codeIn K cdrep "Ratio.__repr__" = true)
    (krep : PySem.W.keepIn K (.ref frep) = true)
    (arad : PySem.W.findIn K (.ref C) "__radd__" = some (some (.ref frad)))
    (irad : PySem.W.isFn K (.ref frad) = true)
    (lrad : K.lookup frad = some ⟨ocrad, odrad, .func (PySem.W.fnOf "__radd__" "Ratio.__radd__" (defArgs sRadd) (defBody sRadd) (defScope sRadd) .none kVrad dcrad pmrad anrad cdrad ctrad), slrad⟩)
    (crad : PySem.W.codeIn K cdrad "Ratio.__radd__" = true)
    (krad : PySem.W.keepIn K (.ref frad) = true)
    (arsu : PySem.W.findIn K (.ref C) "__rsub__" = some (some (.ref frsu)))
    (irsu : PySem.W.isFn K (.ref frsu) = true)
    (lrsu : K.lookup frsu = some ⟨ocrsu, odrsu, .func (PySem.W.fnOf "__rsub__" "Ratio.__rsub__" (defArgs sRsub) (defBody sRsub) (defScope sRsub) .none kVrsu dcrsu pmrsu anrsu cdrsu ctrsu), slrsu⟩)
    (crsu : PySem.W.codeIn K cdrsu "Ratio.__rsub__" = true)
    (krsu : PySem.W.keepIn K (.ref frsu) = true)
    (armu : PySem.W.findIn K (.ref C) "__rmul__" = some (some (.ref frmu)))
    (irmu : PySem.W.isFn K (.ref frmu) = true)
    (lrmu : K.lookup frmu = some ⟨ocrmu, odrmu, .func (PySem.W.fnOf "__rmul__" "Ratio.__rmul__" (defArgs sRmul) (defBody sRmul) (defScope sRmul) .none kVrmu dcrmu pmrmu anrmu cdrmu ctrmu), slrmu⟩)
    (crmu : PySem.W.codeIn K cdrmu "Ratio.__rmul__" = true)
    (krmu : PySem.W.keepIn K (.ref frmu) = true)
    (atop : PySem.W.findIn K (.ref C) "top" = some (some (.ref ptop)))
    (gtop : PySem.W.specialIn K (.ref ptop) "__get__" = some (some (.builtin "property.__get__")))
    (ttop : PySem.W.takesIn K (.ref ptop) = some true)
    (rtop : PySem.W.recIn K ptop "property" = some (.ref ftop :: rstop))
    (ltop : K.lookup ftop = some ⟨octop, odtop, .func (PySem.W.fnOf "top" "Ratio.top" (defArgs sTop) (defBody sTop) (defScope sTop) .none kVtop dctop pmtop antop cdtop cttop), sltop⟩)
    (ctop : PySem.W.codeIn K cdtop "Ratio.top" = true)
    (ktop : PySem.W.keepIn K (.ref ftop) = true)
    (abot : PySem.W.findIn K (.ref C) "bottom" = some (some (.ref pbot)))
    (gbot : PySem.W.specialIn K (.ref pbot) "__get__" = some (some (.builtin "property.__get__")))
    (tbot : PySem.W.takesIn K (.ref pbot) = some true)
    (rbot : PySem.W.recIn K pbot "property" = some (.ref fbot :: rsbot))
    (lbot : K.lookup fbot = some ⟨ocbot, odbot, .func (PySem.W.fnOf "bottom" "Ratio.bottom" (defArgs sBot) (defBody sBot) (defScope sBot) .none kVbot dcbot pmbot anbot cdbot ctbot), slbot⟩)
    (cbot : PySem.W.codeIn K cdbot "Ratio.bottom" = true)
    (kbot : PySem.W.keepIn K (.ref fbot) = true)
    (asig : PySem.W.findIn K (.ref C) "sign" = some (some (.ref psig)))
    (gsig : PySem.W.specialIn K (.ref psig) "__get__" = some (some (.builtin "property.__get__")))
    (tsig : PySem.W.takesIn K (.ref psig) = some true)
    (rsig : PySem.W.recIn K psig "property" = some (.ref fsig :: rssig))
    (lsig : K.lookup fsig = some ⟨ocsig, odsig, .func (PySem.W.fnOf "sign" "Ratio.sign" (defArgs sSign) (defBody sSign) (defScope sSign) .none kVsig dcsig pmsig ansig cdsig ctsig), slsig⟩)
    (csig : PySem.W.codeIn K cdsig "Ratio.sign" = true)
    (ksig : PySem.W.keepIn K (.ref fsig) = true)
    (aiwh : PySem.W.findIn K (.ref C) "is_whole" = some (some (.ref piwh)))
    (giwh : PySem.W.specialIn K (.ref piwh) "__get__" = some (some (.builtin "property.__get__")))
    (tiwh : PySem.W.takesIn K (.ref piwh) = some true)
    (riwh : PySem.W.recIn K piwh "property" = some (.ref fiwh :: rsiwh))
    (liwh : K.lookup fiwh = some ⟨ociwh, odiwh, .func (PySem.W.fnOf "is_whole" "Ratio.is_whole" (defArgs sWhole) (defBody sWhole) (defScope sWhole) .none kViwh dciwh pmiwh aniwh cdiwh ctiwh), sliwh⟩)
    (ciwh : PySem.W.codeIn K cdiwh "Ratio.is_whole" = true)
    (kiwh : PySem.W.keepIn K (.ref fiwh) = true)
    (rdC : PySem.W.readsIn K C (.type "type") = true)
    (gaC : PySem.W.specialIn K (.ref C) "__getattribute__" = some (some (.builtin "type.__getattribute__")))
    (atot : PySem.W.findCls K (.ref C) (.type "type") "total" = some (.get (.builtin "classmethod.__get__") (.ref ptot) .none (.ref C)))
    (rtot : PySem.W.recIn K ptot "classmethod" = some (.ref ftot :: rstot))
    (itot : PySem.W.fnIn K ftot = true)
    (ltot : K.lookup ftot = some ⟨octot, odtot, .func (PySem.W.fnOf "total" "Ratio.total" (defArgs sTotal) (defBody sTotal) (defScope sTotal) .none kVtot dctot pmtot antot cdtot cttot), sltot⟩)
    (ctot : PySem.W.codeIn K cdtot "Ratio.total" = true)
    (ktot : PySem.W.keepIn K (.ref ftot) = true)
    (aini : PySem.W.findIn K (.ref C) "__init__" = some (some (.ref fini)))
    (iini : PySem.W.isFn K (.ref fini) = true)
    (lini : K.lookup fini = some ⟨ocini, odini, .func (PySem.W.fnOf "__init__" "Ratio.__init__" (defArgs sInit) (defBody sInit) (defScope sInit) (.ref Tini) kVini dcini pmini anini cdini ctini), slini⟩)
    (cini : PySem.W.codeIn K cdini "Ratio.__init__" = true)
    (kini : PySem.W.keepIn K (.ref fini) = true)
    (lT : K.lookup Tini = some ⟨ocT, odT, .seq #[.int 1 tkT] nT, slT⟩)
    (pgC : PySem.W.plainGet K C Str.empty = true)
    (hdC : PySem.W.hasDictIn K C = true)
    (poC : PySem.W.plainOver K C = true)
    (saC : PySem.W.findIn K (.ref C) "__setattr__" = some (some (.builtin "object.__setattr__")))
    (mkC : PySem.W.makesIn K C = true)
    (kcC : PySem.W.keepIn K (.ref C) = true)
    (hT0 : PySem.W.findIn K (.ref C) "_top" = some none)
    (nB : PySem.W.findIn K (.ref C) "_bottom" = some none)
    (gcd : PySem.W.nsIn K mainGlobals "gcd" = some (some (.builtin "math.gcd")))
    (hcl : PySem.W.findIn K (.ref C) "__class__" = some (some (.builtin "object.__class__")))
    (hcg : PySem.W.specialIn K (.builtin "object.__class__") "__get__" = some (some (.builtin "getset_descriptor.__get__")))
    (htk : PySem.W.takesIn K (.builtin "object.__class__") = some true)
    (hmo : PySem.W.mroIn K C (.type "object") = some true)
    (isC : PySem.W.isClsIn K C = true)
    (tyC : PySem.W.typeIn K (.ref C) = some (.type "type"))
    (ne : PySem.W.findIn K (.ref C) "__ne__" = some (some (.builtin "object.__ne__")))
    (sf : PySem.W.selfFirst K C = true)
    (siC : PySem.W.subIn K (.type "int") (.ref C) = some false)
    (sCi : PySem.W.subIn K (.ref C) (.type "int") = some false)
    (f1ad : PySem.W.findIn K (.type "int") "__add__" = some foad)
    (f2ad : PySem.W.findIn K (.type "int") "__radd__" = some road)
    (f1su : PySem.W.findIn K (.type "int") "__sub__" = some fosu)
    (f2su : PySem.W.findIn K (.type "int") "__rsub__" = some rosu)
    (f1mu : PySem.W.findIn K (.type "int") "__mul__" = some fomu)
    (f2mu : PySem.W.findIn K (.type "int") "__rmul__" = some romu)
    (z_abs : PySem.W.nsIn K mainGlobals "abs" = some none)
    (z_max : PySem.W.nsIn K mainGlobals "max" = some none)
    (z_min : PySem.W.nsIn K mainGlobals "min" = some none)
    (z_len : PySem.W.nsIn K mainGlobals "len" = some none)
    (z_int : PySem.W.nsIn K mainGlobals "int" = some none)
    (z_str : PySem.W.nsIn K mainGlobals "str" = some none)
    (z_repr : PySem.W.nsIn K mainGlobals "repr" = some none)
    (z_divmod : PySem.W.nsIn K mainGlobals "divmod" = some none)
    (z_all : PySem.W.nsIn K mainGlobals "all" = some none)
    (z_range : PySem.W.nsIn K mainGlobals "range" = some none)
    (z_tuple : PySem.W.nsIn K mainGlobals "tuple" = some none)
    (z_isinstance : PySem.W.nsIn K mainGlobals "isinstance" = some none)
    (z_list : PySem.W.nsIn K mainGlobals "list" = some none)
    (z_bool : PySem.W.nsIn K mainGlobals "bool" = some none) :
    ∃ fd : FuncData, (∀ (s : Shared) (v : Value), BindsTo s fd ⟨[v], []⟩ [("_law_script", v)]) ∧ ∀ base : Heap, K.In base → base.Ns mainGlobals mg → FnG l.prog w K mg base CX0 9 fa fd ["_law_script"] (spLaw K) := by
  have e := hfa.symm.trans (PySem.W.mg_of X G alaw)
  cases e
  have T : Txt K mg C := ⟨⟨pgC, hdC, poC, saC⟩, hT0, nB, PySem.W.mg_of X G aC, PySem.W.mg_none_of X G z_isinstance, PySem.W.mg_none_of X G z_int, PySem.W.mg_none_of X G z_bool, PySem.W.mg_of X G gcd, hcl, hcg, htk, hmo, kit_ref rfl isC tyC siC, kit_same, kit_int rfl sCi⟩
  have N : Bn mg := ⟨PySem.W.mg_none_of X G z_abs, PySem.W.mg_none_of X G z_max, PySem.W.mg_none_of X G z_min, PySem.W.mg_none_of X G z_len, PySem.W.mg_none_of X G z_int, PySem.W.mg_none_of X G z_str, PySem.W.mg_none_of X G z_repr, PySem.W.mg_none_of X G z_divmod, PySem.W.mg_none_of X G z_all, PySem.W.mg_none_of X G z_range, PySem.W.mg_none_of X G z_tuple, PySem.W.mg_none_of X G z_isinstance⟩
  have FisI := fun_mk (st := sIsI) lisI cisI kisI
  have bisI := FisI.binds (ps := ["value"]) fun _ _ _ _ _ _ us hl => match us, hl with | [_], _ => rfl
  have FasR := fun_mk (st := sAsR) lasR casR kasR
  have basR := FasR.binds (ps := ["number"]) fun _ _ _ _ _ _ us hl => match us, hl with | [_], _ => rfl
  have FisL := fun_mk (st := sIsL) lisL cisL kisL
  have bisL := FisL.binds (ps := ["value"]) fun _ _ _ _ _ _ us hl => match us, hl with | [_], _ => rfl
  have Fdra := fun_mk (st := sDraw) ldra cdra kdra
  have bdra := Fdra.binds (ps := ["_law_pot_here", "_law_size"]) fun _ _ _ _ _ _ us hl => match us, hl with | [_, _], _ => rfl
  have Fpic := fun_mk (st := sPick) lpic cpic kpic
  have bpic := Fpic.binds (ps := ["_law_pot_here", "_law_some"]) fun _ _ _ _ _ _ us hl => match us, hl with | [_, _], _ => rfl
  have Flow := fun_mk (st := sLow) llow clow klow
  have blow := Flow.binds (ps := ["_law_above", "_law_below"]) fun _ _ _ _ _ _ us hl => match us, hl with | [_, _], _ => rfl
  have Fpai := fun_mk (st := sPair) lpai cpai kpai
  have bpai := Fpai.binds (ps := ["_law_number"]) fun _ _ _ _ _ _ us hl => match us, hl with | [_], _ => rfl
  have Fplu := fun_mk (st := sPlus) lplu cplu kplu
  have bplu := Fplu.binds (ps := ["_law_one", "_law_other"]) fun _ _ _ _ _ _ us hl => match us, hl with | [_, _], _ => rfl
  have Ftim := fun_mk (st := sTimes) ltim ctim ktim
  have btim := Ftim.binds (ps := ["_law_one", "_law_other"]) fun _ _ _ _ _ _ us hl => match us, hl with | [_, _], _ => rfl
  have Fism := fun_mk (st := sIsMost) lism cism kism
  have bism := Fism.binds (ps := ["_law_one", "_law_other"]) fun _ _ _ _ _ _ us hl => match us, hl with | [_, _], _ => rfl
  have Fsho := fun_mk (st := sShown) lsho csho ksho
  have bsho := Fsho.binds (ps := ["_law_pair_here"]) fun _ _ _ _ _ _ us hl => match us, hl with | [_], _ => rfl
  have Fpot := fun_mk (st := sPot) lpot cpot kpot
  have bpot := Fpot.binds (ps := ["_law_script", "_law_k"]) fun _ _ _ _ _ _ us hl => match us, hl with | [_, _], _ => rfl
  have Fdrn := fun_mk (st := sDrawn) ldrn cdrn kdrn
  have bdrn := Fdrn.binds (ps := ["_law_pot_here"]) fun _ _ _ _ _ _ us hl => match us, hl with | [_], _ => rfl
  have Fone := fun_mk (st := sOneR) lone cone kone
  have bone := Fone.binds (ps := ["_law_drawn_here"]) fun _ _ _ _ _ _ us hl => match us, hl with | [_], _ => rfl
  have Ftwo := fun_mk (st := sTwoR) ltwo ctwo ktwo
  have btwo := Ftwo.binds (ps := ["_law_one", "_law_other"]) fun _ _ _ _ _ _ us hl => match us, hl with | [_, _], _ => rfl
  have Fwho := fun_mk (st := sWholeR) lwho cwho kwho
  have bwho := Fwho.binds (ps := ["_law_one", "_law_number"]) fun _ _ _ _ _ _ us hl => match us, hl with | [_, _], _ => rfl
  have Fsum := fun_mk (st := sSumsR) lsum csum ksum
  have bsum := Fsum.binds (ps := ["_law_pot_here", "_law_drawn_here"]) fun _ _ _ _ _ _ us hl => match us, hl with | [_, _], _ => rfl
  have Frig := fun_mk (st := sRight) lrig crig krig
  have brig := Frig.binds (ps := ["_law_pot_here"]) fun _ _ _ _ _ _ us hl => match us, hl with | [_], _ => rfl
  have Flaw := fun_mk (st := sLaw) llaw claw klaw
  have Fadd := fun_mk (st := sAdd) ladd cadd kadd
  have badd := Fadd.binds (ps := ["self", "other"]) fun _ _ _ _ _ _ us hl => match us, hl with | [_, _], _ => rfl
  have Fsub := fun_mk (st := sSub) lsub csub ksub
  have bsub := Fsub.binds (ps := ["self", "other"]) fun _ _ _ _ _ _ us hl => match us, hl with | [_, _], _ => rfl
  have Fmul := fun_mk (st := sMul) lmul cmul kmul
  have bmul := Fmul.binds (ps := ["self", "other"]) fun _ _ _ _ _ _ us hl => match us, hl with | [_, _], _ => rfl
  have Fneg := fun_mk (st := sNeg) lneg cneg kneg
  have bneg := Fneg.binds (ps := ["self"]) fun _ _ _ _ _ _ us hl => match us, hl with | [_], _ => rfl
  have Fsiz := fun_mk (st := sSize) lsiz csiz ksiz
  have bsiz := Fsiz.binds (ps := ["self"]) fun _ _ _ _ _ _ us hl => match us, hl with | [_], _ => rfl
  have Fove := fun_mk (st := sOver) love cove kove
  have bove := Fove.binds (ps := ["self", "other"]) fun _ _ _ _ _ _ us hl => match us, hl with | [_, _], _ => rfl
  have Fbel := fun_mk (st := sBelow) lbel cbel kbel
  have bbel := Fbel.binds (ps := ["self", "other"]) fun _ _ _ _ _ _ us hl => match us, hl with | [_, _], _ => rfl
  have Fmos := fun_mk (st := sMost) lmos cmos kmos
  have bmos := Fmos.binds (ps := ["self", "other"]) fun _ _ _ _ _ _ us hl => match us, hl with | [_, _], _ => rfl
  have Fequ := fun_mk (st := sEq) lequ cequ kequ
  have bequ := Fequ.binds (ps := ["self", "other"]) fun _ _ _ _ _ _ us hl => match us, hl with | [_, _], _ => rfl
  have Fstr := fun_mk (st := sStr) lstr cstr kstr
  have bstr := Fstr.binds (ps := ["self"]) fun _ _ _ _ _ _ us hl => match us, hl with | [_], _ => rfl
  have Frep := fun_mk (st := sRepr) lrep crep krep
  have brep := Frep.binds (ps := ["self"]) fun _ _ _ _ _ _ us hl => match us, hl with | [_], _ => rfl
  have Frad := fun_mk (st := sRadd) lrad crad krad
  have brad := Frad.binds (ps := ["self", "other"]) fun _ _ _ _ _ _ us hl => match us, hl with | [_, _], _ => rfl
  have Frsu := fun_mk (st := sRsub) lrsu crsu krsu
  have brsu := Frsu.binds (ps := ["self", "other"]) fun _ _ _ _ _ _ us hl => match us, hl with | [_, _], _ => rfl
  have Frmu := fun_mk (st := sRmul) lrmu crmu krmu
  have brmu := Frmu.binds (ps := ["self", "other"]) fun _ _ _ _ _ _ us hl => match us, hl with | [_, _], _ => rfl
  have Ftop := fun_mk (st := sTop) ltop ctop ktop
  have btop := Ftop.binds (ps := ["self"]) fun _ _ _ _ _ _ us hl => match us, hl with | [_], _ => rfl
  have Fbot := fun_mk (st := sBot) lbot cbot kbot
  have bbot := Fbot.binds (ps := ["self"]) fun _ _ _ _ _ _ us hl => match us, hl with | [_], _ => rfl
  have Fsig := fun_mk (st := sSign) lsig csig ksig
  have bsig := Fsig.binds (ps := ["self"]) fun _ _ _ _ _ _ us hl => match us, hl with | [_], _ => rfl
  have Fiwh := fun_mk (st := sWhole) liwh ciwh kiwh
  have biwh := Fiwh.binds (ps := ["self"]) fun _ _ _ _ _ _ us hl => match us, hl with | [_], _ => rfl
  have Ftot := fun_mk (st := sTotal) ltot ctot ktot
  have btot := Ftot.binds (ps := ["cls", "numbers"]) fun _ _ _ _ _ _ us hl => match us, hl with | [_, _], _ => rfl
  have Fini : FunD K "__init__" "Ratio.__init__" (defArgs sInit) (defBody sInit) (defScope sInit) [.int 1] [] fini _ := ⟨⟨_, _, _, _, _, _, _, _, _, _, rfl, lini, cini, .inr ⟨by simp, Tini, _, [.int 1 tkT], nT, rfl, lT, rfl, .cons ⟨tkT, rfl⟩ .nil⟩, .inl rfl⟩, kini⟩
  obtain ⟨ds0, v0, b2⟩ := Fini.binds1 (ps := ["self", "top", "bottom"]) 3 1 (by simp) rfl fun T kV doc pm an cdv ct us its h1 h2 => match us, its, h1, h2 with | [_, _, _], [_], _, _ => ⟨_, rfl, rfl⟩
  cases v0
  obtain ⟨ds1, v1, b1⟩ := Fini.binds1 (ps := ["self", "top", "bottom"]) 2 0 (by simp) rfl fun T kV doc pm an cdv ct us its h1 h2 => match us, its, h1, h2 with | [_, _], [_], _, _ => ⟨_, rfl, rfl⟩
  have Z : IsI K mg fisI _ := ⟨FisI, PySem.W.mg_of X G aisI, bisI⟩
  refine ⟨PySem.W.fnOf "law" "law" (defArgs sLaw) (defBody sLaw) (defScope sLaw) .none kVlaw dclaw pmlaw anlaw cdlaw ctlaw, fun s v => .of_eq rfl, fun base _ _ => ?_⟩
  have oinit := ok_init (P := l.prog) (w := w) (base := base) Fini T Z
  have M : MkR l.prog w K mg base C fini _ ds1 := ⟨⟨mkC, aini, iini, kcC⟩, oinit, b2, b1, v1⟩
  obtain ⟨kits, kkw⟩ := Fini.kbindsD (ps := ["self", "top", "bottom"]) 1 ["bottom", "top"] (fun us ds ws => swp us ws) (by simp) (fun r1 r2 r3 => kwrel r1 r3) fun T kV doc pm an cdv ct us its ws h1 h2 h3 => match us, its, ws, h1, h2, h3 with | [_], [_], [_, _], _, _, _ => ⟨_, rfl, rfl⟩
  let R : RK l.prog w K mg base := { C := C, T := T, fI := fini, fdI := _, ds := ds1, mkr := M, fi := fisI, fdi := _, isI := ok_isI FisI T, Zi := Z, fA := fasR, fdA := _, asR := ok_asR FasR T M, mA := PySem.W.mg_of X G aasR, kA := kasR, bA := basR, pT := ptop, gT := ftop, fdT := _, tP := ⟨atop, gtop, ttop, _, rtop⟩, tF := ok_top Ftop T, tB := btop, pB := pbot, gB := fbot, fdB := _, bP := ⟨abot, gbot, tbot, _, rbot⟩, bF := ok_bot Fbot T, bB := bbot }
  let Bad : BinK R .Add (· + ·) := { f := fadd, fd := _, F := ok_add R Fadd, b := badd, sf := sf, at_ := aadd, fn := iadd, fr := frad, rat := arad, rfn := irad, fo := foad, ro := road, i1 := f1ad, i2 := f2ad, siC := siC }
  let Bsu : BinK R .Sub (· - ·) := { f := fsub, fd := _, F := ok_sub R Fsub, b := bsub, sf := sf, at_ := asub, fn := isub, fr := frsu, rat := arsu, rfn := irsu, fo := fosu, ro := rosu, i1 := f1su, i2 := f2su, siC := siC }
  let Bmu : BinK R .Mult (· * ·) := { f := fmul, fd := _, F := ok_mul R Fmul, b := bmul, sf := sf, at_ := amul, fn := imul, fr := frmu, rat := armu, rfn := irmu, fo := fomu, ro := romu, i1 := f1mu, i2 := f2mu, siC := siC }
  let Ddra : DDraw l.prog w K mg base := ⟨fdra, _, ok_draw N Fdra, PySem.W.mg_of X G adra, kdra, bdra⟩
  let Dpic : DPick l.prog w K mg base := ⟨fpic, _, ok_pick N Ddra Fpic, PySem.W.mg_of X G apic, kpic, bpic⟩
  let Dlow : DLow l.prog w K mg base := ⟨flow, _, ok_low N Flow, PySem.W.mg_of X G alow, klow, blow⟩
  have PS : PropOf K C "sign" psig fsig := ⟨asig, gsig, tsig, _, rsig⟩
  let L : LK l.prog w K mg base := {
    R := R, N := N,
    sign := ⟨psig, fsig, _, ok_sign Fsig T, PS, bsig⟩
    whole := ⟨piwh, fiwh, _, ok_whole Fiwh T, ⟨aiwh, giwh, tiwh, _, riwh⟩, biwh⟩
    neg := ⟨fneg, _, ok_neg R Fneg, ⟨aneg, ineg, kneg⟩, bneg⟩
    size := ⟨fsiz, _, ok_size R N.abs Fsiz, ⟨asiz, isiz, ksiz⟩, bsiz⟩
    over := ⟨fove, _, ok_over R PS (ok_sign Fsig T) bsig Fove, ⟨aove, iove, kove⟩, bove⟩
    overK := ⟨fun s us ws _ h1 h2 => match us, ws, h1, h2 with | [_], [_], _, _ => .of_eq rfl, fun r1 r2 => r1.append r2⟩
    below := ⟨fbel, _, ok_below R Fbel, ⟨abel, ibel, kbel⟩, bbel⟩
    belowK := ⟨fun s us ws _ h1 h2 => match us, ws, h1, h2 with | [_], [_], _, _ => .of_eq rfl, fun r1 r2 => r1.append r2⟩
    most := ⟨fmos, _, ok_most R Fmos, ⟨amos, imos, kmos⟩, bmos⟩
    eq := ⟨fequ, _, ok_eq Fequ T, ⟨aequ, iequ, kequ⟩, bequ⟩
    ne := ne
    str := ⟨fstr, _, ok_str Fstr T, ⟨astr, istr, kstr⟩, bstr⟩
    repr := ⟨frep, _, ok_repr Frep T, ⟨arep, irep, krep⟩, brep⟩
    add := Bad, sub := Bsu, mul := Bmu
    radd := ⟨frad, _, ok_radd R Bad Frad, ⟨arad, irad, krad⟩, brad⟩
    rsub := ⟨frsu, _, ok_rsub R Bsu Frsu, ⟨arsu, irsu, krsu⟩, brsu⟩
    rmul := ⟨frmu, _, ok_rmul R Bmu Frmu, ⟨armu, irmu, krmu⟩, brmu⟩
    siC := siC, sCi := sCi
    kwG := _, kwV := _, kwE := fun x b t => rfl, kw := kkw
    draw := Ddra, pick := Dpic, low := Dlow
    pair := ⟨fpai, _, ok_pair R Fpai, PySem.W.mg_of X G apai, kpai, bpai⟩
    plus := ⟨fplu, _, ok_plus Dlow Fplu, PySem.W.mg_of X G aplu, kplu, bplu⟩
    times := ⟨ftim, _, ok_times Dlow Ftim, PySem.W.mg_of X G atim, ktim, btim⟩
    isMost := ⟨fism, _, ok_isMost Fism, PySem.W.mg_of X G aism, kism, bism⟩
    drawn := ⟨fdrn, _, ok_drawn Ddra Dpic Fdrn, PySem.W.mg_of X G adrn, kdrn, bdrn⟩
    shown := ⟨fsho, _, ok_shown N Fsho, PySem.W.mg_of X G asho, ksho, bsho⟩ }
  have IL : IsL l.prog w K mg base fisL _ := ⟨ok_isL T (PySem.W.mg_none_of X G z_list) N.tuple FisL, PySem.W.mg_of X G aisL, kisL, bisL⟩
  let Zt : TotK L.R := { f := ftot, fd := _, F := ok_total R Bad IL Ftot, b := btot, kb := ⟨fun s us ws _ h1 h2 => match us, ws, h1, h2 with | [_], [_], _, _ => .of_eq rfl, fun r1 r2 => r1.append r2⟩, mc := .type "type", p := ptot, cr := ⟨rdC, gaC⟩, cm := ⟨atot, ⟨_, rtot⟩, itot⟩, tup := N.tuple }
  let Gk : RgK L := { one := ⟨fone, _, ok_oneR L Fone, PySem.W.mg_of X G aone, kone, bone⟩, two := ⟨ftwo, _, ok_twoR L Ftwo, PySem.W.mg_of X G atwo, ktwo, btwo⟩, whole := ⟨fwho, _, ok_wholeR L Fwho, PySem.W.mg_of X G awho, kwho, bwho⟩, sums := ⟨fsum, _, ok_sumsR L Zt Fsum, PySem.W.mg_of X G asum, ksum, bsum⟩, rng := N.range }
  exact ok_law ⟨N, N.range, N.min, ⟨fpot, _, ok_pot N Fpot, PySem.W.mg_of X G apot, kpot, bpot⟩, ⟨frig, _, ok_right L Gk Frig, PySem.W.mg_of X G arig, krig, brig⟩⟩ Flaw
end K11
namespace K11
open PySem L2 GX KM
theorem walk {l : PySem.W.OpenLaw} {q : Program} {loose : List Str} {XP : (Str → Option Value) → Heap → Prop} {YP : World → Heap → Prop} {d : DefRec} {K : Params → PySem.W.Frag} (hn : l.most = some 63) (hdf : d.params.defaults = [])
    (hY : ∀ (w : World) (h : Heap), YP w h → (K w.params).In h)
    (F : ∀ (w : World) (mg : Str → Option Value) (fa : Addr) (h : Heap), (K w.params).In h → h.Ns mainGlobals mg → mg d.name = some (.ref fa) →
      ∃ fd : FuncData, (∀ (s : Shared) (u : Value), BindsTo s fd ⟨[u], []⟩ [("_law_script", u)]) ∧ ∀ base : Heap, (K w.params).In base → base.Ns mainGlobals mg → FnG l.prog w (K w.params) mg base CX0 9 fa fd ["_law_script"] (spLaw (K w.params))) :
    PySem.W.WalkO q loose XP YP l.row.toRowW d [] (fun f vs => PySem.call f vs) :=
  GX.walk_ofG (n := 63) (k := 9) (x := "_law_script") (CX := fun _ => CX0) (sp := fun w => spLaw (K w.params)) hn (by decide) hdf ⟨rfl, by decide, by decide⟩ hY F (fun _ _ a ns hl _ _ hS => ⟨a, ns, rfl, hS, hl, fun _ => rfl⟩) fun _ _ _ _ _ z => z
end K11
open PySem PySem.W PyProof.Rows
set_option maxRecDepth 100000 in
set_option maxHeartbeats 0 in
theorem PySem.Challenge.cw_heardquotes_k11_whole_ratios_reckoned_holds : PySem.Challenge.rw_heardquotes_k11_whole_ratios_reckoned.Holds := by
  w_on; o_law; k_head; (case hw => w_witness2)
  k_fill
  refine K11.walk (l := PySem.Challenge.rw_heardquotes_k11_whole_ratios_reckoned) rfl rfl (fun w h Y => PySem.W.kIn_of Y) ?F
  case F =>
    intro w mg fa h KX G hmg
    refine' K11.all_mk KX G hmg ?aC ?aisI ?lisI ?cisI ?kisI ?aasR ?lasR ?casR ?kasR ?aisL ?lisL ?cisL ?kisL ?adra ?ldra ?cdra ?kdra ?apic ?lpic ?cpic ?kpic ?alow ?llow ?clow ?klow ?apai ?lpai ?cpai ?kpai ?aplu ?lplu ?cplu ?kplu ?atim ?ltim ?ctim ?ktim ?aism ?lism ?cism ?kism ?asho ?lsho ?csho ?ksho ?apot ?lpot ?cpot ?kpot ?adrn ?ldrn ?cdrn ?kdrn ?aone ?lone ?cone ?kone ?atwo ?ltwo ?ctwo ?ktwo ?awho ?lwho ?cwho ?kwho ?asum ?lsum ?csum ?ksum ?arig ?lrig ?crig ?krig ?alaw ?llaw ?claw ?klaw ?aadd ?iadd ?ladd ?cadd ?kadd ?asub ?isub ?lsub ?csub ?ksub ?amul ?imul ?lmul ?cmul ?kmul ?aneg ?ineg ?lneg ?cneg ?kneg ?asiz ?isiz ?lsiz ?csiz ?ksiz ?aove ?iove ?love ?cove ?kove ?abel ?ibel ?lbel ?cbel ?kbel ?amos ?imos ?lmos ?cmos ?kmos ?aequ ?iequ ?lequ ?cequ ?kequ ?astr ?istr ?lstr ?cstr ?kstr ?arep ?irep ?lrep ?crep ?krep ?arad ?irad ?lrad ?crad ?krad ?arsu ?irsu ?lrsu ?crsu ?krsu ?armu ?irmu ?lrmu ?crmu ?krmu ?atop ?gtop ?ttop ?rtop ?ltop ?ctop ?ktop ?abot ?gbot ?tbot ?rbot ?lbot ?cbot ?kbot ?asig ?gsig ?tsig ?rsig ?lsig ?csig ?ksig ?aiwh ?giwh ?tiwh ?riwh ?liwh ?ciwh ?kiwh ?rdC ?gaC ?atot ?rtot ?itot ?ltot ?ctot ?ktot ?aini ?iini ?lini ?cini ?kini ?lT ?pgC ?hdC ?poC ?saC ?mkC ?kcC ?hT0 ?nB ?gcd ?hcl ?hcg ?htk ?hmo ?isC ?tyC ?ne ?sf ?siC ?sCi ?f1ad ?f2ad ?f1su ?f2su ?f1mu ?f2mu ?z_abs ?z_max ?z_min ?z_len ?z_int ?z_str ?z_repr ?z_divmod ?z_all ?z_range ?z_tuple ?z_isinstance ?z_list ?z_bool
    (case aC => k_is)
    (case aisI => k_is)
    (case lisI => k_is)
    (case cisI => k_is)
    (case kisI => k_is)
    (case aasR => k_is)
    (case lasR => k_is)
    (case casR => k_is)
    (case kasR => k_is)
    (case aisL => k_is)
    (case lisL => k_is)
    (case cisL => k_is)
    (case kisL => k_is)
    (case adra => k_is)
    (case ldra => k_is)
    (case cdra => k_is)
    (case kdra => k_is)
    (case apic => k_is)
    (case lpic => k_is)
    (case cpic => k_is)
    (case kpic => k_is)
    (case alow => k_is)
    (case llow => k_is)
    (case clow => k_is)
    (case klow => k_is)
    (case apai => k_is)
    (case lpai => k_is)
    (case cpai => k_is)
    (case kpai => k_is)
    (case aplu => k_is)
    (case lplu => k_is)
    (case cplu => k_is)
    (case kplu => k_is)
    (case atim => k_is)
    (case ltim => k_is)
    (case ctim => k_is)
    (case ktim => k_is)
    (case aism => k_is)
    (case lism => k_is)
    (case cism => k_is)
    (case kism => k_is)
    (case asho => k_is)
    (case lsho => k_is)
    (case csho => k_is)
    (case ksho => k_is)
    (case apot => k_is)
    (case lpot => k_is)
    (case cpot => k_is)
    (case kpot => k_is)
    (case adrn => k_is)
    (case ldrn => k_is)
    (case cdrn => k_is)
    (case kdrn => k_is)
    (case aone => k_is)
    (case lone => k_is)
    (case cone => k_is)
    (case kone => k_is)
    (case atwo => k_is)
    (case ltwo => k_is)
    (case ctwo => k_is)
    (case ktwo => k_is)
    (case awho => k_is)
    (case lwho => k_is)
    (case cwho => k_is)
    (case kwho => k_is)
    (case asum => k_is)
    (case lsum => k_is)
    (case csum => k_is)
    (case ksum => k_is)
    (case arig => k_is)
    (case lrig => k_is)
    (case crig => k_is)
    (case krig => k_is)
    (case alaw => k_is)
    (case llaw => k_is)
    (case claw => k_is)
    (case klaw => k_is)
    (case aadd => k_is)
    (case iadd => k_is)
    (case ladd => k_is)
    (case cadd => k_is)
    (case kadd => k_is)
    (case asub => k_is)
    (case isub => k_is)
    (case lsub => k_is)
    (case csub => k_is)
    (case ksub => k_is)
    (case amul => k_is)
    (case imul => k_is)
    (case lmul => k_is)
    (case cmul => k_is)
    (case kmul => k_is)
    (case aneg => k_is)
    (case ineg => k_is)
    (case lneg => k_is)
    (case cneg => k_is)
    (case kneg => k_is)
    (case asiz => k_is)
    (case isiz => k_is)
    (case lsiz => k_is)
    (case csiz => k_is)
    (case ksiz => k_is)
    (case aove => k_is)
    (case iove => k_is)
    (case love => k_is)
    (case cove => k_is)
    (case kove => k_is)
    (case abel => k_is)
    (case ibel => k_is)
    (case lbel => k_is)
    (case cbel => k_is)
    (case kbel => k_is)
    (case amos => k_is)
    (case imos => k_is)
    (case lmos => k_is)
    (case cmos => k_is)
    (case kmos => k_is)
    (case aequ => k_is)
    (case iequ => k_is)
    (case lequ => k_is)
    (case cequ => k_is)
    (case kequ => k_is)
    (case astr => k_is)
    (case istr => k_is)
    (case lstr => k_is)
    (case cstr => k_is)
    (case kstr => k_is)
    (case arep => k_is)
    (case irep => k_is)
    (case lrep => k_is)
    (case crep => k_is)
    (case krep => k_is)
    (case arad => k_is)
    (case irad => k_is)
    (case lrad => k_is)
    (case crad => k_is)
    (case krad => k_is)
    (case arsu => k_is)
    (case irsu => k_is)
    (case lrsu => k_is)
    (case crsu => k_is)
    (case krsu => k_is)
    (case armu => k_is)
    (case irmu => k_is)
    (case lrmu => k_is)
    (case crmu => k_is)
    (case krmu => k_is)
    (case atop => k_is)
    (case gtop => k_is)
    (case ttop => k_is)
    (case rtop => k_is)
    (case ltop => k_is)
    (case ctop => k_is)
    (case ktop => k_is)
    (case abot => k_is)
    (case gbot => k_is)
    (case tbot => k_is)
    (case rbot => k_is)
    (case lbot => k_is)
    (case cbot => k_is)
    (case kbot => k_is)
    (case asig => k_is)
    (case gsig => k_is)
    (case tsig => k_is)
    (case rsig => k_is)
    (case lsig => k_is)
    (case csig => k_is)
    (case ksig => k_is)
    (case aiwh => k_is)
    (case giwh => k_is)
    (case tiwh => k_is)
    (case riwh => k_is)
    (case liwh => k_is)
    (case ciwh => k_is)
    (case kiwh => k_is)
    (case rdC => k_is)
    (case gaC => k_is)
    (case atot => k_is)
    (case rtot => k_is)
    (case itot => k_is)
    (case ltot => k_is)
    (case ctot => k_is)
    (case ktot => k_is)
    (case aini => k_is)
    (case iini => k_is)
    (case lini => k_is)
    (case cini => k_is)
    (case kini => k_is)
    (case lT => k_is)
    (case pgC => k_is)
    (case hdC => k_is)
    (case poC => k_is)
    (case saC => k_is)
    (case mkC => k_is)
    (case kcC => k_is)
    (case hT0 => k_is)
    (case nB => k_is)
    (case gcd => k_is)
    (case hcl => k_is)
    (case hcg => k_is)
    (case htk => k_is)
    (case hmo => k_is)
    (case isC => k_is)
    (case tyC => k_is)
    (case ne => k_is)
    (case sf => k_is)
    (case siC => k_is)
    (case sCi => k_is)
    (case f1ad => k_is)
    (case f2ad => k_is)
    (case f1su => k_is)
    (case f2su => k_is)
    (case f1mu => k_is)
    (case f2mu => k_is)
    (case z_abs => k_is)
    (case z_max => k_is)
    (case z_min => k_is)
    (case z_len => k_is)
    (case z_int => k_is)
    (case z_str => k_is)
    (case z_repr => k_is)
    (case z_divmod => k_is)
    (case z_all => k_is)
    (case z_range => k_is)
    (case z_tuple => k_is)
    (case z_isinstance => k_is)
    (case z_list => k_is)
    (case z_bool => k_is)
