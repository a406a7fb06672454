import PyProof.Rows.All
import Wide.All
import OpenK.AllK
import Wide.FinOn
import HandS.ForMost
import HandS.ForExc
import HandS.ExcInit
import HandS.WideBits
import HandS.EndBits
import HandS.Property
import HandS.OwnEq
import HandS.Conv
import HandS.IsInst
import HandS.MakeKw
import HandS.Style
import HandS.RaiseMore
import PyProof.ReprLen
import KE.KExcSuper
import HandS.ExcField
import HandS.TryOnly
import HandS.TryMany
import HandS.CallSlots
import HandS.More
import HandS.Ends
import KE.KMethU
import KE.KMinKey
import HandS.SortKw
import KE.KRevSl
import PySem.Challenge.RW_rowmarks_k02_modes_compared
set_option Elab.async false
set_option linter.all false
set_option maxRecDepth 100000
set_option maxHeartbeats 4000000
namespace Rm
open PySem PySem.Spec L2
open PyProof.Rows hiding St

/-! ### promises of defs that know that no display is being written -/
def Gd (A : Around) : Prop := A.guards = some []
theorem Gd.deeper {A : Around} (h : Gd A) (e : Env) : Gd (A.deeper e) := h
theorem Gd.in1 {A : Around} (h : Gd A) : Gd A.in1 := h
theorem Gd.make {A : Around} (h : Gd A) (C : Addr) (us : List Value)
    (kw : List (Str × Value)) : Gd (A.under (.builtin "type.__call__" ⟨.ref C :: us, kw⟩)) := by
  have e : Code.guards (.builtin "type.__call__" ⟨.ref C :: us, kw⟩) = [] := by
    unfold Code.guards Code.isGuard
    exact if_neg (show ¬ (guardIds.contains "type.__call__" = true) by decide +kernel)
  unfold Gd Around.under
  dsimp only
  rw [e]
  exact h

structure FnG (P : Program) (w : World) (K : PySem.W.Frag)
    (mg : Str → Option Value) (base : Heap) (CX : CXT) (k : Nat)
    (f : Addr) (fd : FuncData) (ps : List Str) (sp : Sp) : Prop where
  len : ∀ vs H Q E, sp vs H Q E → vs.length = ps.length
  run : ∀ (A : Around) (outer : List Env) (s : Shared) (H : Hp) (ar : Args)
    (us : List Value) (vs : List V) (Q : VK) (E : XK), Room k A → Gd A →
    Env0 P w K mg base A outer s H → BindsTo s fd ar (ps.zip us) → Vals vs us →
    sp vs H Q E →
    codeAny (model P w) A (.call (.ref f) ar) (CR CX outer P w H s Q E) s

section
variable {P : Program} {w : World} {K : PySem.W.Frag}
variable {mg : Str → Option Value} {base : Heap} {CX : CXT} {k j : Nat}
variable {f : Addr} {fd : FuncData} {ps : List Str} {sp sp' : Sp}
theorem FnG.of (F : FnOk P w K mg base CX k f fd ps sp) : FnG P w K mg base CX k f fd ps sp :=
  ⟨F.len, fun A outer s H ar us vs Q E hr _ => F.run A outer s H ar us vs Q E hr⟩
theorem FnG.mono (F : FnG P w K mg base CX j f fd ps sp) (h : j ≤ k) : FnG P w K mg base CX k f fd ps sp :=
  ⟨F.len, fun A outer s H ar us vs Q E hr => F.run A outer s H ar us vs Q E (hr.mono h)⟩
theorem FnG.imp (F : FnG P w K mg base CX k f fd ps sp)
    (h : ∀ vs H Q E, sp' vs H Q E → sp vs H Q E) : FnG P w K mg base CX k f fd ps sp' :=
  ⟨fun vs H Q E q => F.len vs H Q E (h _ _ _ _ q),
    fun A outer s H ar us vs Q E hr hg e0 hb hv hs =>
      F.run A outer s H ar us vs Q E hr hg e0 hb hv (h _ _ _ _ hs)⟩
end

/-! ### calls -/
section
variable {X : Cx} {CX : CXT} {k : Nat} {f C : Addr} {fd : FuncData} {ps : List Str} {sp : Sp}
variable {dvs : List V} {ds : List Value} {E : XK} {x m : Str} {p pos apos : Pos} {e o : Expr}
variable {es : List Expr} {ta : TE} {t : TA}

/-- behind a callee's end -/
theorem came {pins : List (Addr × Obj)} {σ : St} {H : Hp} {s s' : Shared} {Q : VK} {r : Result}
    (hx : Passes CX X E) (I : Inv X pins σ H s)
    (hq : CR CX X.stack X.prog X.w H s Q E r s') :
    wants (EP X pins σ Q) X.xe r s' := by
  match r, hq with
  | .error e, hq => exact hx pins σ H s e s' I hq
  | .ok (.ret u), hq => exact I.after hq
  | .ok .next, hq => exact False.elim hq
  | .ok .brk, hq => exact False.elim hq
  | .ok .cont, hq => exact False.elim hq

theorem goes {pins : List (Addr × Obj)} {σ : St} {H : Hp} {s : Shared} {Q : VK}
    {us : List Value} {vs : List V}
    (F : FnG X.prog X.w X.K X.mg X.base CX k f fd ps sp) (hr : Room k X.A) (hG : Gd X.A)
    (hb : Binds X.K fd ps ds) (hd : Vals dvs ds) (hx : Passes CX X E)
    (I : Inv X pins σ H s) (r : Vals vs us) (h : sp (vs ++ dvs) H Q E) :
    wpAny (model X.prog X.w) X.A (call (.ref f) us) (EP X pins σ Q) X.xe s := by
  have both := r.append hd
  have hl : (us ++ ds).length = ps.length := both.length.symm.trans (F.len _ _ _ _ h)
  exact wpAny_call (codeAny_mono (F.run X.A X.stack s H ⟨us, []⟩ _ _ Q E hr hG I.env0
    (hb s us I.kIn hl) both h) fun r s' hq => came hx I hq)

theorem pe_fn (F : FnG X.prog X.w X.K X.mg X.base CX k f fd ps sp) (hr : Room k X.A) (hG : Gd X.A)
    (hg : Gl X x) (hm : X.mg x = some (.ref f)) (hk : PySem.W.keepIn X.K (.ref f) = true)
    (hb : Binds X.K fd ps ds) (hd : Vals dvs ds) (hx : Passes CX X E) (ha : PA X (e :: es) t)
    (hdb : (x == ("__debug__" : Str)) = false := by decide)
    (he : starEach (e :: es) X.env = (false, eval e X.env) :: starEach es X.env := by rfl)
    (hpl : (backTo pos (starEach es X.env)).any (·.1) = false := by rfl) :
    PE X (.Call (.Name x p) (e :: es) [] pos) (tCall sp dvs E t) :=
  ⟨fun pins s σ H Q I h => wpAny_Call_Name_kw (ld_glob I hg hm
    (PySem.W.callWith_K (h₀ := X.base) I.ok.mod.kin hk
      (thn (ha.run pos pins s σ H _ I h) fun us s1 ⟨vs, H1, I1, r, q⟩ =>
        ⟨I1.kIn, goes F hr hG hb hd hx I1 r q⟩) he hpl) hdb)⟩

theorem pe_fn0 (F : FnG X.prog X.w X.K X.mg X.base CX k f fd ps sp) (hr : Room k X.A) (hG : Gd X.A)
    (hg : Gl X x) (hm : X.mg x = some (.ref f)) (hk : PySem.W.keepIn X.K (.ref f) = true)
    (hb : Binds X.K fd ps ds) (hd : Vals dvs ds) (hx : Passes CX X E)
    (hdb : (x == ("__debug__" : Str)) = false := by decide) :
    PE X (.Call (.Name x p) [] [] pos) (tCall sp dvs E tNil) :=
  ⟨fun pins s σ H Q I h => wpAny_Call_Name_kw (ld_glob I hg hm
    (PySem.W.callWith_K0 I.kIn hk (goes (us := []) F hr hG hb hd hx I .nil h)) hdb)⟩

theorem pe_mth {pl : Sem Bool} (he : PE X o ta) (c : Cls X.K C) (hm : Meth X.K C m f)
    (F : FnG X.prog X.w X.K X.mg X.base CX k f fd ps sp) (hr : Room k X.A) (hG : Gd X.A)
    (hb : Binds X.K fd ps ds) (hd : Vals dvs ds) (hx : Passes CX X E) (ha : PA X (e :: es) t)
    (hst : starEach (e :: es) X.env = (false, eval e X.env) :: starEach es X.env := by rfl)
    (hpl : (backTo pos (starEach es X.env)).any (·.1) = false := by rfl)
    (ht : eval (.Call (.Attribute o m apos) (e :: es) [] pos) X.env = (do
      let ov ← eval o X.env
      standAt apos.atName
      let (g, first) ← holding [ov] (getMethod ov m pl)
      callWith pos g first (backTo pos (starEach (e :: es) X.env))
        (backToKw pos (keywordEach [] X.env))) := by rfl) :
    PE X (.Call (.Attribute o m apos) (e :: es) [] pos) (tMeth C m sp dvs E ta t) := by
  constructor
  intro pins s σ H Q I h
  refine PySem.W.methodCall_KW (pl := pl)
    (thn (he.run pins s σ H _ I h) fun u s1 ⟨y, H1, I1, ry, a, dx, fs, ey, ea, l, q⟩ => ?_) ht
  obtain rfl := ey
  have ru : u = Value.ref a := ry
  rw [ru]
  exact getmeth_ok I1 ea c hm l (PySem.W.callWith_K (first := [.ref a]) (h₀ := X.base)
    I.ok.mod.kin hm.kp (thn (ha.run pos pins s1 σ H1 _ I1 q) fun us s2 ⟨vs, H2, I2, r, q2⟩ =>
      ⟨I2.kIn, goes (us := .ref a :: us) (vs := .ref a :: vs) F hr hG hb hd hx I2 (.cons rfl r) q2⟩) hst hpl)

theorem pe_mth0 {pl : Sem Bool} (he : PE X o ta) (c : Cls X.K C) (hm : Meth X.K C m f)
    (F : FnG X.prog X.w X.K X.mg X.base CX k f fd ps sp) (hr : Room k X.A) (hG : Gd X.A)
    (hb : Binds X.K fd ps ds) (hd : Vals dvs ds) (hx : Passes CX X E)
    (ht : eval (.Call (.Attribute o m apos) [] [] pos) X.env = (do
      let ov ← eval o X.env
      standAt apos.atName
      let (g, first) ← holding [ov] (getMethod ov m pl)
      callWith pos g first (backTo pos (starEach [] X.env))
        (backToKw pos (keywordEach [] X.env))) := by rfl) :
    PE X (.Call (.Attribute o m apos) [] [] pos) (tMeth C m sp dvs E ta tNil) := by
  constructor
  intro pins s σ H Q I h
  refine PySem.W.methodCall_KW (pl := pl)
    (thn (he.run pins s σ H _ I h) fun u s1 ⟨y, H1, I1, ry, a, dx, fs, ey, ea, l, q⟩ => ?_) ht
  obtain rfl := ey
  have ru : u = Value.ref a := ry
  rw [ru]
  exact getmeth_ok I1 ea c hm l (PySem.W.callWith_K0 (first := [.ref a]) I1.kIn hm.kp
    (goes (us := [.ref a]) (vs := [.ref a]) F hr hG hb hd hx I1 (.cons rfl .nil) q))

/-! ### a new instance -/
theorem grows {pins : List (Addr × Obj)} {σ : St} {H : Hp} {s : Shared} {Q : VK}
    {us : List Value} {vs : List V} (M : Mk X.K C f)
    (F : FnG X.prog X.w X.K X.mg X.base CX k f fd ps sp) (hr : Room (k + 1) X.A) (hG : Gd X.A)
    (hb : Binds X.K fd ps ds) (hd : Vals dvs ds) (hx : Passes CX X E)
    (I : Inv X pins σ H s) (r : Vals vs us)
    (h : ∀ y dx, H y = none → H dx = none → dx ≠ y →
      sp (.ref y :: (vs ++ dvs)) (upd (upd H dx (.own y)) y (.ins C dx []))
        (fun v H2 => v = .non ∧ Q (.ref y) H2) E) :
    wpAny (model X.prog X.w) X.A (call (.ref C) us) (EP X pins σ Q) X.xe s := by
  have n1 : H (s.heap.objs.size + 1) = none := I.hok.fresh (Nat.le_succ _)
  have n0 : H s.heap.objs.size = none := I.hok.fresh (Nat.le_refl _)
  have hq := h _ _ n1 n0 (Nat.ne_of_lt (Nat.lt_succ_self _))
  have I2 := Inv.made (C := C) I
  have both : Vals (V.ref (s.heap.objs.size + 1) :: (vs ++ dvs))
      (Value.ref (s.heap.objs.size + 1) :: (us ++ ds)) := .cons rfl (r.append hd)
  have hl : (Value.ref (s.heap.objs.size + 1) :: us ++ ds).length = ps.length :=
    both.length.symm.trans (F.len _ _ _ _ hq)
  refine wpAny_call (make_map (f := f) I.kIn M.makes M.init (beq_iff_eq.mp M.fn)
    (codeAny_mono (F.run _ X.stack _ _ ⟨Value.ref (s.heap.objs.size + 1) :: us, []⟩ _ _ _ E
      (hr.make C us []) (hG.make C us []) (I2.env0.make C us [])
      (hb _ (Value.ref (s.heap.objs.size + 1) :: us) I2.kIn hl) both hq) fun r s' hq' => ?_))
  match r, hq' with
  | .error er, hq' => exact hx pins σ _ _ er s' I2 hq'
  | .ok (.ret u), hq' =>
    obtain ⟨v, H', I3, rv, ev, q3⟩ := I2.after hq'
    subst ev
    exact ⟨rv, V.ref (s.heap.objs.size + 1), H', I3, rfl, q3⟩
  | .ok .next, hq' => exact False.elim hq'
  | .ok .brk, hq' => exact False.elim hq'
  | .ok .cont, hq' => exact False.elim hq'

theorem pe_new (M : Mk X.K C f) (F : FnG X.prog X.w X.K X.mg X.base CX k f fd ps sp)
    (hr : Room (k + 1) X.A) (hG : Gd X.A) (hg : Gl X x) (hm : X.mg x = some (.ref C))
    (hb : Binds X.K fd ps ds) (hd : Vals dvs ds) (hx : Passes CX X E) (ha : PA X (e :: es) t)
    (hdb : (x == ("__debug__" : Str)) = false := by decide)
    (he : starEach (e :: es) X.env = (false, eval e X.env) :: starEach es X.env := by rfl)
    (hpl : (backTo pos (starEach es X.env)).any (·.1) = false := by rfl) :
    PE X (.Call (.Name x p) (e :: es) [] pos) (tMake C sp dvs E t) :=
  ⟨fun pins s σ H Q I h => wpAny_Call_Name_kw (ld_glob I hg hm
    (PySem.W.callWith_K (h₀ := X.base) I.ok.mod.kin M.kp
      (thn (ha.run pos pins s σ H _ I h) fun us s1 ⟨vs, H1, I1, r, q⟩ =>
        ⟨I1.kIn, grows M F hr hG hb hd hx I1 r q⟩) he hpl) hdb)⟩

theorem pe_new0 (M : Mk X.K C f) (F : FnG X.prog X.w X.K X.mg X.base CX k f fd ps sp)
    (hr : Room (k + 1) X.A) (hG : Gd X.A) (hg : Gl X x) (hm : X.mg x = some (.ref C))
    (hb : Binds X.K fd ps ds) (hd : Vals dvs ds) (hx : Passes CX X E)
    (hdb : (x == ("__debug__" : Str)) = false := by decide) :
    PE X (.Call (.Name x p) [] [] pos) (tMake C sp dvs E tNil) :=
  ⟨fun pins s σ H Q I h => wpAny_Call_Name_kw (ld_glob I hg hm
    (PySem.W.callWith_K0 I.kIn M.kp (grows (us := []) M F hr hG hb hd hx I .nil h)) hdb)⟩
end

/-! ### a def by its body -/
section
variable {P : Program} {w : World} {K : PySem.W.Frag} {mg : Str → Option Value} {base : Heap}
theorem fn_in {CX : CXT} {x qual : Str} {st : Stmt} {f : Addr} {fd : FuncData} {N ps : List Str}
    {k : Nat} {sp : Sp} (F : Fun K x qual st f fd) (S : FnScope N ps (defScope st))
    (len : ∀ vs H Q E, sp vs H Q E → vs.length = ps.length)
    (body : ∀ (cdv : Value) (A : Around) (outer : List Env) (s : Shared) (H : Hp) (vs : List V)
        (Q : VK) (E : XK), Room k (A.deeper (envOfC qual (defScope st) s.heap.objs.size f cdv)) →
      Gd (A.deeper (envOfC qual (defScope st) s.heap.objs.size f cdv)) → sp vs H Q E →
      ∃ t, PSs (cxOf CX P w K mg base N qual (defScope st) f cdv A outer s H E) (defBody st) t ∧
        t { nx := fun _ H' => Q .non H', rt := Q } (start N vs) H) :
    FnG P w K mg base CX (k + 1) f fd ps sp := by
  obtain ⟨oc, od, kV, doc, pm, an, cdv, ct, osl, rfl, lk, hcd⟩ := F.ex
  refine ⟨len, fun A outer s H ar us vs Q E hr hG e0 hb r hsp => ?_⟩
  have hl := len _ _ _ _ hsp
  have up : ∀ b o, base.get? b = some o → s.heap.get? b = some o := fun b o e => (e0.bs b o e).1
  have KX : K.In s.heap := e0.mod.kin.keeps up
  have lim : s.heap.NoLimit := e0.mod.nolimit.keeps up
  refine codeAny_call_function hr.depth (KX _ _ lk) rfl S.co S.gen rfl
    (PySem.W.codeRec_of KX hcd) (hb _ _ _ _ ?_)
  refine wpAny_newFunctionEnv_cells S.kind (fun ⟨n, v⟩ hy => ?_) fun env he s1 z => ?_
  · exact (S.par n (List.of_mem_zip hy).1).imp id
      fun q => ⟨q, PySem.W.cellsFrom_some _ _ _ (.inl q)⟩
  subst he
  refine ⟨lim.keeps z.toInCall.keep, codeAny_func ?_⟩
  obtain ⟨t, ht, hq⟩ := body cdv A outer s H vs Q E (hr.deeper _) (hG.deeper _) hsp
  have I := inv_start (CX := CX) (E := E) (qual := qual) (f := f) (cd := cdv) S hr.hd e0 hl r z
  refine wpAny_mono (ht.run [] s1 (start N vs) H _ I hq) (fun fl s' hs => ?_) fun e s' hs => hs
  match fl, hs with
  | .ret u, ⟨v, σ', H', J, rv, q⟩ => exact ⟨v, H', J.os, J.bare, J.base, J.hok, rv, q⟩
  | .next, ⟨σ', H', J, q⟩ => exact ⟨V.non, H', J.os, J.bare, J.base, J.hok, rfl, q⟩
  | .brk, ⟨_, _, _, q⟩ => exact False.elim q
  | .cont, ⟨_, _, _, q⟩ => exact False.elim q

/-- nothing leaves the def -/
theorem fn_q {x qual : Str} {st : Stmt} {f : Addr} {fd : FuncData} {N ps : List Str}
    {k : Nat} {sp : Sp} (F : Fun K x qual st f fd) (S : FnScope N ps (defScope st))
    (len : ∀ vs H Q E, sp vs H Q E → vs.length = ps.length)
    (body : ∀ (cdv : Value) (A : Around) (outer : List Env) (s : Shared) (H : Hp) (vs : List V)
        (Q : VK) (E : XK), Room k (A.deeper (envOfC qual (defScope st) s.heap.objs.size f cdv)) →
      Gd (A.deeper (envOfC qual (defScope st) s.heap.objs.size f cdv)) → sp vs H Q E →
      ∃ t, PSs (cxOf CX0 P w K mg base N qual (defScope st) f cdv A outer s H E).nox (defBody st) t ∧
        t { nx := fun _ H' => Q .non H', rt := Q } (start N vs) H) :
    FnG P w K mg base CX0 (k + 1) f fd ps sp :=
  fn_in F S len fun cdv A outer s H vs Q E hr hG hs =>
    let ⟨t, h, q⟩ := body cdv A outer s H vs Q E hr hG hs
    ⟨t, h.nox, q⟩
end
end Rm

set_option maxRecDepth 100000
set_option maxHeartbeats 4000000
namespace Rm
open PySem PySem.Spec L2
open PyProof.Rows hiding St

/-! ### data of any kind: what stands behind a value -/
def keyD : Key → PyData
  | .inl i => .int i
  | .inr x => .str x
mutual
inductive Dx (K : PySem.W.Frag) (H : Hp) : V → PyData → Prop
  | non : Dx K H .non .none
  | bl (b : Bool) : Dx K H (.bl b) (.bool b)
  | int (i : Int) : Dx K H (.int i) (.int i)
  | str (x : Str) : Dx K H (.str x) (.str x)
  | lst {a : Addr} {xs : List V} {ds : List PyData} :
      SqL K H a xs → DxAll K H xs ds → Dx K H (.ref a) (.list ds)
  | tup {a : Addr} {xs : List V} {ds : List PyData} :
      SqT K H a xs → DxAll K H xs ds → Dx K H (.ref a) (.tuple ds)
  | dic {a : Addr} {kvs : List (Key × V)} {es : List (PyData × PyData)} :
      Rd H a (.dK kvs) → DxKv K H kvs es → Dx K H (.ref a) (.dict es)
inductive DxAll (K : PySem.W.Frag) (H : Hp) : List V → List PyData → Prop
  | nil : DxAll K H [] []
  | cons {v : V} {vs : List V} {d : PyData} {ds : List PyData} :
      Dx K H v d → DxAll K H vs ds → DxAll K H (v :: vs) (d :: ds)
inductive DxKv (K : PySem.W.Frag) (H : Hp) : List (Key × V) → List (PyData × PyData) → Prop
  | nil : DxKv K H [] []
  | cons {k : Key} {v : V} {r : List (Key × V)} {d : PyData} {es : List (PyData × PyData)} :
      Dx K H v d → DxKv K H r es → DxKv K H ((k, v) :: r) ((keyD k, d) :: es)
end

/-- what is read stays -/
def SameR (H H' : Hp) : Prop := ∀ a u, Rd H a u → Rd H' a u
theorem SameR.of {H H' : Hp} (e : Same H H') : SameR H H' := fun a u h =>
  h.elim (fun h => .inl (e _ _ h)) fun ⟨o, h⟩ => .inr ⟨o, e _ _ h⟩
theorem SameR.trans {H H' H2 : Hp} (e : SameR H H') (e2 : SameR H' H2) : SameR H H2 := fun a u h => e2 a u (e a u h)
/-- a thing that is locked is read as before -/
theorem SameR.lock {H : Hp} {d : Addr} {o : Obj} {u : HO} (h : H d = some u) (n : ∀ o' u', u ≠ .frz o' u') : SameR H (upd H d (.frz o u)) := fun a w r => by
  by_cases z : a = d
  · subst z
    rcases r with r | ⟨o', r⟩
    · rw [h] at r; cases r
      exact .inr ⟨o, upd_same⟩
    · rw [h] at r; cases r
      exact absurd rfl (n _ _)
  · rcases r with r | ⟨o', r⟩
    · exact .inl (by rw [upd_ne z]; exact r)
    · exact .inr ⟨o', by rw [upd_ne z]; exact r⟩
theorem sq_upR {K : PySem.W.Frag} {H H' : Hp} {a : Addr} {xs : List V} (e : SameR H H')
    (h : SqL K H a xs) : SqL K H' a xs := h.elim (fun h => .inl (e _ _ h)) .inr
theorem st_upR {K : PySem.W.Frag} {H H' : Hp} {a : Addr} {xs : List V} (e : SameR H H')
    (h : SqT K H a xs) : SqT K H' a xs := h.elim (fun h => .inl (e _ _ h)) .inr
theorem sq_up {K : PySem.W.Frag} {H H' : Hp} {a : Addr} {xs : List V} (e : Same H H')
    (h : SqL K H a xs) : SqL K H' a xs := sq_upR (.of e) h
mutual
theorem Dx.upR {K : PySem.W.Frag} {H H' : Hp} (e : SameR H H') : ∀ {v : V} {d : PyData},
    Dx K H v d → Dx K H' v d
  | _, _, .non => .non
  | _, _, .bl b => .bl b
  | _, _, .int i => .int i
  | _, _, .str x => .str x
  | _, _, .lst h r => .lst (sq_upR e h) (DxAll.upR e r)
  | _, _, .tup h r => .tup (st_upR e h) (DxAll.upR e r)
  | _, _, .dic h r => .dic (e _ _ h) (DxKv.upR e r)
theorem DxAll.upR {K : PySem.W.Frag} {H H' : Hp} (e : SameR H H') : ∀ {vs : List V} {ds : List PyData},
    DxAll K H vs ds → DxAll K H' vs ds
  | _, _, .nil => .nil
  | _, _, .cons h r => .cons (Dx.upR e h) (DxAll.upR e r)
theorem DxKv.upR {K : PySem.W.Frag} {H H' : Hp} (e : SameR H H') :
    ∀ {vs : List (Key × V)} {ds : List (PyData × PyData)}, DxKv K H vs ds → DxKv K H' vs ds
  | _, _, .nil => .nil
  | _, _, .cons h r => .cons (Dx.upR e h) (DxKv.upR e r)
end
theorem Dx.up {K : PySem.W.Frag} {H H' : Hp} {v : V} {d : PyData} (e : Same H H') (h : Dx K H v d) : Dx K H' v d := h.upR (.of e)
theorem DxAll.get {K : PySem.W.Frag} {H : Hp} : ∀ {vs : List V} {ds : List PyData} {i : Nat} {v : V}, DxAll K H vs ds → vs[i]? = some v →
    ∃ d, ds[i]? = some d ∧ Dx K H v d
  | _, _, _, _, .nil, h => by simp at h
  | _, _, 0, _, .cons h _, e => by simp at e; subst e; exact ⟨_, rfl, h⟩
  | _, _, i + 1, _, .cons _ r, e => by simp at e; simpa using DxAll.get r e

theorem DxKv.keys {K : PySem.W.Frag} {H : Hp} : ∀ {kvs : List (Key × V)} {es : List (PyData × PyData)},
    DxKv K H kvs es → es.map (·.1) = kvs.map fun p => keyD p.1
  | _, _, .nil => rfl
  | _, _, .cons _ r => by simp only [List.map_cons]; rw [DxKv.keys r]

section
variable {X : Cx} {pins : List (Addr × Obj)} {σ : L2.St} {H : Hp} {s : Shared}

/-- how u is written, and that it can be read -/
def Shw (P : Program) (w : World) (h : Heap) (u : Value) (d : PyData) : Prop :=
  (∃ as, Reads h u d as) ∧ ∃ bs, ReadAtMost h d.depth bs ∧ ReprK P w bs h d.depth u d.shown
def ShwAll (P : Program) (w : World) (h : Heap) (us : List Value) (ds : List PyData) : Prop :=
  (∃ as, ReadsAll h us ds as) ∧ ∃ bs, ReadAtMost h (PyData.depthAll ds) bs ∧
    ReprAllK P w bs h (PyData.depthAll ds) us (PyData.shownAll ds)

theorem ShwAll.none {P : Program} {w : World} {h : Heap} : ShwAll P w h [] [] :=
  ⟨⟨_, .nil⟩, [], (fun _ z => nomatch z), by simp only [PyData.shownAll]; exact .nil⟩
theorem ShwAll.more {P : Program} {w : World} {h : Heap} {u : Value} {us : List Value} {d : PyData}
    {ds : List PyData} (a : Shw P w h u d) (b : ShwAll P w h us ds) : ShwAll P w h (u :: us) (d :: ds) := by
  obtain ⟨⟨_, r1⟩, b1, m1, k1⟩ := a
  obtain ⟨⟨_, r2⟩, b2, m2, k2⟩ := b
  refine ⟨⟨_, .cons r1 r2⟩, b1 ++ b2, ?_, ?_⟩
  · simp only [PyData.depthAll]
    exact (m1.mono (Nat.le_max_left _ _)).append (m2.mono (Nat.le_max_right _ _))
  · simp only [PyData.depthAll, PyData.shownAll]
    exact .cons ((k1.more fun _ z => List.mem_append_left _ z).level_le (Nat.le_max_left _ _))
      (k2.more_le (fun _ z => List.mem_append_right _ z) (Nat.le_max_right _ _))

theorem kv_read : ∀ {kvs : List (Key × V)} {vs : List (Key × Value)} {es : List DictEntry}
    {P : Program} {w : World}, KV kvs vs → Pairs (mixKind P w) es vs →
    (∀ (h : Heap), ∀ (ks : List PyData), ks = kvs.map (fun p => keyD p.1) →
      PyData.showableAll ks = true → (∀ t ∈ PyData.shownAll ks, t.length ≤ sizeLine) →
      ShwAll P w h (es.map (·.key)) ks) ∧ Vals (kvs.map (·.2)) (es.map (·.val))
  | _, _, _, P, w, .nil, .nil => ⟨fun h ks e _ _ => by subst e; exact ShwAll.none, .nil⟩
  | _, _, _, P, w, .cons (a := (k, v)) (b := (k', u)) hr tl, .cons (e := e) hk hv r => by
    obtain ⟨ih1, ih2⟩ := kv_read tl r
    obtain ⟨rfl, rv⟩ := hr
    refine ⟨fun h ks e2 hs hz => ?_, ?_⟩
    · subst e2
      simp only [List.map_cons, PyData.showableAll, Bool.and_eq_true] at hs
      simp only [List.map_cons, PyData.shownAll] at hz ⊢
      refine ShwAll.more ?_ (ih1 h _ rfl hs.2 fun t ht => hz t (List.mem_cons_of_mem _ ht))
      have z0 := hz _ (List.mem_cons_self ..)
      rcases keyIs_shape (k := k) (v := e.key) hk with ⟨i, t, ek, ev⟩ | ⟨x, t, ek, ev⟩
      · subst ek
        rw [ev]
        have hi : i.natAbs.log2 < 1920 := by simpa [keyD, PyData.showable] using hs.1
        refine ⟨⟨_, .int i t⟩, [], (fun _ z => nomatch z), ?_⟩
        simp only [keyD, PyData.shown]
        exact .of_is (ReprIs.int t hi) _ _ _
      · subst ek
        rw [ev]
        refine ⟨⟨_, .str x t⟩, [], (fun _ z => nomatch z), ?_⟩
        simp only [keyD, PyData.shown] at z0 ⊢
        exact .of_is (ReprIs.str x t z0) _ _ _
    · simp only [List.map_cons]
      rw [hv]
      exact .cons rv ih2

mutual
theorem Dx.shw (I : Inv X pins σ H s) : ∀ (d : PyData) (v : V) (u : Value), Dx X.K H v d → RelV v u →
    d.showable = true → d.shown.length ≤ sizeLine → Shw X.prog X.w s.heap u d
  | .none, _, _, h, r, _, _ => by
    cases h; cases r
    exact ⟨⟨_, .none⟩, [], (fun _ z => nomatch z), by simp only [PyData.shown]; exact .of_is ReprIs.none _ _ _⟩
  | .bool b, _, _, h, r, _, _ => by
    cases h; cases r
    exact ⟨⟨_, .bool b⟩, [], (fun _ z => nomatch z), by simp only [PyData.shown]; exact .of_is (ReprIs.bool b) _ _ _⟩
  | .int i, _, _, h, r, hs, _ => by
    cases h
    obtain ⟨t, rfl⟩ := r
    refine ⟨⟨_, .int i t⟩, [], (fun _ z => nomatch z), ?_⟩
    simp only [PyData.shown]
    exact .of_is (ReprIs.int t (by simpa [PyData.showable] using hs)) _ _ _
  | .str x, _, _, h, r, _, hz => by
    cases h
    obtain ⟨t, rfl⟩ := r
    refine ⟨⟨_, .str x t⟩, [], (fun _ z => nomatch z), ?_⟩
    simp only [PyData.shown] at hz ⊢
    exact .of_is (ReprIs.str x t hz) _ _ _
  | .list ds, _, _, h, r, hs, hz => by
    cases h with
    | lst hl ha =>
      cases r
      obtain ⟨its, rv, ⟨o, n, ho, hc, _, hd⟩, _⟩ := I.list hl
      simp only [PyData.shown] at hz
      obtain ⟨⟨as, ra⟩, bs, mb, kb⟩ := Dx.shwAll I ds _ its ha rv (by simpa [PyData.showable] using hs)
        fun t ht => Nat.le_trans (listText_mem_le ht) hz
      have rr := Reads.list ho hc hd ra
      refine ⟨⟨_, rr⟩, _, ReadAtMost.cons rr (by simp only [PyData.depth]; omega) mb, ?_⟩
      simp only [PyData.depth, PyData.shown]
      cases its with
      | nil =>
        cases ra
        simp only [PyData.shownAll, listText_nil]
        exact ReprK.listEmpty ho hc hd
      | cons y l =>
        exact ReprK.list ho hc hd (not_mem_of_deeper rr (by simp only [PyData.depth]; omega) mb)
          (by simpa using kb.length_eq) fun i z e => kb.item i z (by simpa using e)
  | .tuple ds, _, _, h, r, hs, hz => by
    cases h with
    | tup hl ha =>
      cases r
      obtain ⟨its, rv, ⟨o, ho, hc, n, hd⟩, _⟩ := I.tuple hl
      simp only [PyData.shown] at hz
      obtain ⟨⟨as, ra⟩, bs, mb, kb⟩ := Dx.shwAll I ds _ its ha rv (by simpa [PyData.showable] using hs)
        fun t ht => Nat.le_trans (tupleText_mem_le ht) hz
      have rr := Reads.tuple ho hc hd ra
      refine ⟨⟨_, rr⟩, _, ReadAtMost.cons rr (by simp only [PyData.depth]; omega) mb, ?_⟩
      simp only [PyData.depth, PyData.shown]
      exact ReprK.tuple ho hc hd (not_mem_of_deeper rr (by simp only [PyData.depth]; omega) mb) kb
  | .dict es, _, _, h, r, hs, hz => by
    cases h with
    | dic hl ha =>
      cases r
      obtain ⟨hsz, hsys, vs, kv, o, ents, ep, ho, hx, hd, _, hp, _⟩ := dk_rd I.hok hl
      obtain ⟨hs1, hs2⟩ := PyData.showableKv_split es (by simpa [PyData.showable] using hs)
      simp only [PyData.shown] at hz
      obtain ⟨kr, vr⟩ := kv_read kv hp
      have ek := DxKv.keys ha
      obtain ⟨⟨_, r1⟩, b1, m1, k1⟩ := kr s.heap _ ek hs1 fun t ht =>
        let ⟨p, hp, hl⟩ := PyData.shownKv_key_le es t ht
        Nat.le_trans hl (Nat.le_trans (dictText_mem_le hp) hz)
      obtain ⟨⟨_, r2⟩, b2, m2, k2⟩ := Dx.shwAll2 I es _ _ ha vr hs2 fun t ht =>
        let ⟨p, hp, hl⟩ := PyData.shownKv_val_le es t ht
        Nat.le_trans hl (Nat.le_trans (dictText_mem_le hp) hz)
      have rr : Reads s.heap (.ref _) (.dict es) _ := Reads.dict ho hx.1 hd r1 r2
      have mb := (m1.mono (PyData.depthAll_keys_le es)).append (m2.mono (PyData.depthAll_vals_le es))
      refine ⟨⟨_, rr⟩, _, ReadAtMost.cons rr (by simp only [PyData.depth]; omega) mb, ?_⟩
      simp only [PyData.depth, PyData.shown, PyData.shownKv_eq]
      exact ReprK.dict ho hx.1 hd hsys (not_mem_of_deeper rr (by simp only [PyData.depth]; omega) mb)
        (ReprEntriesK.of_two ents.toList _ _
          (k1.more_le (fun _ z => List.mem_append_left _ z) (PyData.depthAll_keys_le es))
          (k2.more_le (fun _ z => List.mem_append_right _ z) (PyData.depthAll_vals_le es)))
theorem Dx.shwAll (I : Inv X pins σ H s) : ∀ (ds : List PyData) (vs : List V) (us : List Value),
    DxAll X.K H vs ds → Vals vs us → PyData.showableAll ds = true →
    (∀ t ∈ PyData.shownAll ds, t.length ≤ sizeLine) → ShwAll X.prog X.w s.heap us ds
  | [], _, _, h, r, _, _ => by
    cases h; cases r
    exact ShwAll.none
  | d :: ds, _, _, h, r, hs, hz => by
    cases h with
    | cons h1 h2 =>
      cases r with
      | cons r1 r2 =>
        simp only [PyData.showableAll, Bool.and_eq_true] at hs
        simp only [PyData.shownAll] at hz
        exact ShwAll.more (Dx.shw I d _ _ h1 r1 hs.1 (hz _ (List.mem_cons_self ..)))
          (Dx.shwAll I ds _ _ h2 r2 hs.2 fun t ht => hz t (List.mem_cons_of_mem _ ht))
theorem Dx.shwAll2 (I : Inv X pins σ H s) : ∀ (es : List (PyData × PyData)) (kvs : List (Key × V))
    (us : List Value), DxKv X.K H kvs es → Vals (kvs.map (·.2)) us →
    PyData.showableAll (es.map (·.2)) = true →
    (∀ t ∈ PyData.shownAll (es.map (·.2)), t.length ≤ sizeLine) → ShwAll X.prog X.w s.heap us (es.map (·.2))
  | [], _, _, h, r, _, _ => by
    cases h; cases r
    exact ShwAll.none
  | (k, d) :: ds, _, _, h, r, hs, hz => by
    cases h with
    | cons h1 h2 =>
      cases r with
      | cons r1 r2 =>
        simp only [List.map_cons, PyData.showableAll, Bool.and_eq_true] at hs
        simp only [List.map_cons, PyData.shownAll] at hz
        exact ShwAll.more (Dx.shw I d _ _ h1 r1 hs.1 (hz _ (List.mem_cons_self ..)))
          (Dx.shwAll2 I ds _ _ h2 r2 hs.2 fun t ht => hz t (List.mem_cons_of_mem _ ht))
end
end
end Rm

set_option maxRecDepth 100000
set_option maxHeartbeats 4000000
namespace Rm
open PySem PySem.Spec L2
open PyProof.Rows hiding St

/-- small enough to be written out -/
structure Sm (d : PyData) : Prop where
  sh : d.showable = true
  lv : d.leavesShort 100 = true
  wt : d.weight ≤ 100000
  dp : d.depth ≤ 50
theorem Sm.len {d : PyData} (h : Sm d) : d.shown.length ≤ sizeLine := by
  have h1 := PyData.shown_le 100 (by decide) d h.lv
  have h2 := h.wt
  rw [sizeLine_eq]
  omega

def rRep (K : PySem.W.Frag) : List V → Hp → VK → Prop := fun xs H Q =>
  ∃ x d, xs = [x] ∧ Dx K H x d ∧ Sm d ∧ Q (.str d.shown) H
theorem call_rep {X : Cx} (hG : Gd X.A) (hu : X.A.units + 64 < cLine) : CallR X (.builtin "repr") (rRep X.K) := by
  intro pins s σ H xs us Q I r h
  obtain ⟨x, d, rfl, hd, hs, q⟩ := h
  obtain ⟨u, rfl, ru⟩ := vals1 r
  have hz := hs.len
  have hdp := hs.dp
  have S := Dx.shw I d x u hd ru hs.sh hz
  have fin : ∀ h' t tk, (∀ b o, s.heap.get? b = some o → h'.get? b = some o) →
      EP X pins σ Q (.str d.shown t) { s with heap := h', toks := tk } := fun h' t tk k =>
    ⟨.str d.shown, H, I.kept k, ⟨t, rfl⟩, q⟩
  cases hd with
  | non =>
    cases ru
    simp only [PyData.shown] at fin
    exact PySem.P.repr_of_none (fin s.heap _ _ fun _ _ e => e)
  | bl b =>
    cases ru
    simp only [PyData.shown] at fin
    exact PySem.P.repr_of_bool (fin s.heap _ _ fun _ _ e => e)
  | int i =>
    obtain ⟨t, rfl⟩ := ru
    simp only [PyData.shown] at fin
    exact PySem.P.repr_of_int (by simpa [PyData.showable] using hs.sh) (fin s.heap _ _ fun _ _ e => e)
  | str z =>
    obtain ⟨t, rfl⟩ := ru
    simp only [PyData.shown] at fin hz
    exact PySem.P.repr_of_str (fin s.heap _ _ fun _ _ e => e) hz
  | lst hl ha =>
    cases ru
    rename_i a xs ds
    obtain ⟨its, rv, ⟨o, n, ho, hc, _, hdt⟩, _⟩ := I.list hl
    simp only [PyData.shown] at hz fin
    simp only [PyData.depth] at hdp
    have ss : PyData.showableAll ds = true := by simpa [PyData.showable] using hs.sh
    obtain ⟨⟨as, ra⟩, bs, mb, kb⟩ := Dx.shwAll I ds _ its ha rv ss
      fun t ht => Nat.le_trans (listText_mem_le ht) hz
    have rr := Reads.list ho hc hdt ra
    refine call_repr_slot (by omega) ⟨o, ho, hc⟩ F.slot_list_repr.toG ?_
    cases its with
    | nil =>
      cases ra
      simp only [PyData.shownAll, listText_nil] at fin
      exact call_list_repr_empty ⟨o, ho, hc⟩ ho hdt ⟨_, _, rfl, fin s.heap _ _ fun _ _ e => e⟩
    | cons y l =>
      exact call_list_reprK ho hc hdt (not_mem_of_deeper rr (by simp only [PyData.depth]; omega) mb)
        (by simpa using kb.length_eq) (fun i z e => kb.item i z (by simpa using e)) hG
        (fun b _ => Clear.nil b) (by show X.A.units + 1 + _ < cLine; omega) (fun _ _ e => e)
        (fun h' t tk k => ⟨_, _, rfl, fin h' t tk k⟩) hz
  | tup hl ha =>
    cases ru
    rename_i a xs ds
    obtain ⟨its, rv, ⟨o, ho, hc, n, hdt⟩, _⟩ := I.tuple hl
    simp only [PyData.shown] at hz fin
    simp only [PyData.depth] at hdp
    have ss : PyData.showableAll ds = true := by simpa [PyData.showable] using hs.sh
    obtain ⟨⟨as, ra⟩, bs, mb, kb⟩ := Dx.shwAll I ds _ its ha rv ss
      fun t ht => Nat.le_trans (tupleText_mem_le ht) hz
    have rr := Reads.tuple ho hc hdt ra
    refine call_repr_slot (by omega) ⟨o, ho, hc⟩ F.slot_tuple_repr ?_
    exact call_tuple_reprK ho hc hdt (not_mem_of_deeper rr (by simp only [PyData.depth]; omega) mb) kb hG
      (fun b _ => Clear.nil b) (by show X.A.units + 1 + _ < cLine; omega) (fun _ _ e => e)
      (fun h' t tk k => ⟨_, _, rfl, fin h' t tk k⟩) hz
  | dic hl ha =>
    cases ru
    rename_i a kvs es
    obtain ⟨hsz, hsys, vs, kv, o, ents, ep, ho, hx, hdt, _, hp, _⟩ := dk_rd I.hok hl
    obtain ⟨hs1, hs2⟩ := PyData.showableKv_split es (by simpa [PyData.showable] using hs.sh)
    simp only [PyData.shown] at hz fin
    simp only [PyData.depth] at hdp
    obtain ⟨kr, vr⟩ := kv_read kv hp
    have ek := DxKv.keys ha
    obtain ⟨⟨_, r1⟩, b1, m1, k1⟩ := kr s.heap _ ek hs1 fun t ht =>
      let ⟨p, hp, hl⟩ := PyData.shownKv_key_le es t ht
      Nat.le_trans hl (Nat.le_trans (dictText_mem_le hp) hz)
    obtain ⟨⟨_, r2⟩, b2, m2, k2⟩ := Dx.shwAll2 I es _ _ ha vr hs2 fun t ht =>
      let ⟨p, hp, hl⟩ := PyData.shownKv_val_le es t ht
      Nat.le_trans hl (Nat.le_trans (dictText_mem_le hp) hz)
    have rr : Reads s.heap (.ref _) (.dict es) _ := Reads.dict ho hx.1 hdt r1 r2
    have mb := (m1.mono (PyData.depthAll_keys_le es)).append (m2.mono (PyData.depthAll_vals_le es))
    rw [PyData.shownKv_eq] at fin hz
    refine call_repr_slot (by omega) ⟨o, ho, hx.1⟩ F.slot_dict_repr ?_
    exact call_dict_reprK ho hx.1 hdt hsys (not_mem_of_deeper rr (by simp only [PyData.depth]; omega) mb)
      (ReprEntriesK.of_two ents.toList _ _
        (k1.more_le (fun _ z => List.mem_append_left _ z) (PyData.depthAll_keys_le es))
        (k2.more_le (fun _ z => List.mem_append_right _ z) (PyData.depthAll_vals_le es))) hG
      (fun b _ => Clear.nil b) (by show X.A.units + 1 + _ < cLine; omega) (fun _ _ e => e)
      (fun h' t tk k => ⟨_, _, rfl, fin h' t tk k⟩) hz

/-! ### powers of great numbers -/
def CPowX (i j : Int) : Prop := 0 ≤ j ∧ (Builtin.Int.intBits i : Int) * j ≤ 2 ^ 27
theorem op_powX {X : Cx} : OpR X (binaryOp .Pow) (rI CPowX fun i j => .int (i ^ j.toNat)) :=
  opI fun _ _ _ _ _ _ _ hc q => pow_int hc.1 hc.2 q
end Rm

set_option maxRecDepth 100000
set_option maxHeartbeats 4000000
namespace Rm
open PySem PySem.Spec L2
open PyProof.Rows hiding St

/-! ### what is called, in one word each -/
/-- the module's name x is a def that keeps sp -/
def Ce (P : Program) (w : World) (K : PySem.W.Frag) (mg : Str → Option Value) (base : Heap) (CX : CXT)
    (k : Nat) (x : Str) (ps : List Str) (sp : Sp) : Prop :=
  ∃ f fd, mg x = some (.ref f) ∧ PySem.W.keepIn K (.ref f) = true ∧ Binds K fd ps [] ∧
    FnG P w K mg base CX k f fd ps sp
/-- the class at C has the method m that keeps sp -/
def Cm (P : Program) (w : World) (K : PySem.W.Frag) (mg : Str → Option Value) (base : Heap) (CX : CXT)
    (k : Nat) (C : Addr) (m : Str) (ps : List Str) (sp : Sp) : Prop :=
  ∃ f fd, Cls K C ∧ Meth K C m f ∧ Binds K fd ps [] ∧ FnG P w K mg base CX k f fd ps sp
/-- the module's name x is a class whose __init__ keeps sp -/
def Cn (P : Program) (w : World) (K : PySem.W.Frag) (mg : Str → Option Value) (base : Heap) (CX : CXT)
    (k : Nat) (x : Str) (C : Addr) (ps : List Str) (sp : Sp) : Prop :=
  ∃ f fd, mg x = some (.ref C) ∧ Mk K C f ∧ Binds K fd ps [] ∧ FnG P w K mg base CX k f fd ps sp
/-- the class at C has the property m that keeps sp -/
def Cp (P : Program) (w : World) (K : PySem.W.Frag) (mg : Str → Option Value) (base : Heap) (CX : CXT)
    (k : Nat) (C : Addr) (m : Str) (sp : Sp) : Prop :=
  ∃ p g fd, Cls K C ∧ PropOf K C m p g ∧ Binds K fd ["self"] [] ∧ FnG P w K mg base CX k g fd ["self"] sp

section
variable {X : Cx} {CX : CXT} {k : Nat} {C : Addr} {ps : List Str} {sp : Sp}
variable {E : XK} {x m : Str} {p pos apos : Pos} {e o : Expr}
variable {es : List Expr} {ta : TE} {t : TA}
theorem pe_ce (D : Ce X.prog X.w X.K X.mg X.base CX k x ps sp) (hr : Room k X.A) (hG : Gd X.A)
    (ha : PA X (e :: es) t) (hx : Passes CX X E) (hg : Gl X x := by rfl)
    (hdb : (x == ("__debug__" : Str)) = false := by decide)
    (he : starEach (e :: es) X.env = (false, eval e X.env) :: starEach es X.env := by rfl)
    (hpl : (backTo pos (starEach es X.env)).any (·.1) = false := by rfl) :
    PE X (.Call (.Name x p) (e :: es) [] pos) (tCall sp [] E t) :=
  let ⟨_, _, hm, hk, hb, F⟩ := D
  pe_fn F hr hG hg hm hk hb .nil hx ha hdb he hpl
theorem pe_ce0 (D : Ce X.prog X.w X.K X.mg X.base CX k x ps sp) (hr : Room k X.A) (hG : Gd X.A)
    (hx : Passes CX X E) (hg : Gl X x := by rfl)
    (hdb : (x == ("__debug__" : Str)) = false := by decide) :
    PE X (.Call (.Name x p) [] [] pos) (tCall sp [] E tNil) :=
  let ⟨_, _, hm, hk, hb, F⟩ := D
  pe_fn0 F hr hG hg hm hk hb .nil hx hdb
theorem pe_cm {pl : Sem Bool} (D : Cm X.prog X.w X.K X.mg X.base CX k C m ps sp) (hr : Room k X.A)
    (hG : Gd X.A) (he : PE X o ta) (ha : PA X (e :: es) t) (hx : Passes CX X E)
    (hst : starEach (e :: es) X.env = (false, eval e X.env) :: starEach es X.env := by rfl)
    (hpl : (backTo pos (starEach es X.env)).any (·.1) = false := by rfl)
    (ht : eval (.Call (.Attribute o m apos) (e :: es) [] pos) X.env = (do
      let ov ← eval o X.env
      standAt apos.atName
      let (g, first) ← holding [ov] (getMethod ov m pl)
      callWith pos g first (backTo pos (starEach (e :: es) X.env))
        (backToKw pos (keywordEach [] X.env))) := by rfl) :
    PE X (.Call (.Attribute o m apos) (e :: es) [] pos) (tMeth C m sp [] E ta t) :=
  let ⟨_, _, c, hm, hb, F⟩ := D
  pe_mth he c hm F hr hG hb .nil hx ha hst hpl ht
theorem pe_cm0 {pl : Sem Bool} (D : Cm X.prog X.w X.K X.mg X.base CX k C m ps sp) (hr : Room k X.A)
    (hG : Gd X.A) (he : PE X o ta) (hx : Passes CX X E)
    (ht : eval (.Call (.Attribute o m apos) [] [] pos) X.env = (do
      let ov ← eval o X.env
      standAt apos.atName
      let (g, first) ← holding [ov] (getMethod ov m pl)
      callWith pos g first (backTo pos (starEach [] X.env))
        (backToKw pos (keywordEach [] X.env))) := by rfl) :
    PE X (.Call (.Attribute o m apos) [] [] pos) (tMeth C m sp [] E ta tNil) :=
  let ⟨_, _, c, hm, hb, F⟩ := D
  pe_mth0 he c hm F hr hG hb .nil hx ht
theorem pe_cn (D : Cn X.prog X.w X.K X.mg X.base CX k x C ps sp) (hr : Room (k + 1) X.A) (hG : Gd X.A)
    (ha : PA X (e :: es) t) (hx : Passes CX X E) (hg : Gl X x := by rfl)
    (hdb : (x == ("__debug__" : Str)) = false := by decide)
    (he : starEach (e :: es) X.env = (false, eval e X.env) :: starEach es X.env := by rfl)
    (hpl : (backTo pos (starEach es X.env)).any (·.1) = false := by rfl) :
    PE X (.Call (.Name x p) (e :: es) [] pos) (tMake C sp [] E t) :=
  let ⟨_, _, hm, M, hb, F⟩ := D
  pe_new M F hr hG hg hm hb .nil hx ha hdb he hpl
theorem pe_cn0 (D : Cn X.prog X.w X.K X.mg X.base CX k x C ps sp) (hr : Room (k + 1) X.A) (hG : Gd X.A)
    (hx : Passes CX X E) (hg : Gl X x := by rfl)
    (hdb : (x == ("__debug__" : Str)) = false := by decide) :
    PE X (.Call (.Name x p) [] [] pos) (tMake C sp [] E tNil) :=
  let ⟨_, _, hm, M, hb, F⟩ := D
  pe_new0 M F hr hG hg hm hb .nil hx hdb
end

/-! ### properties -/
section
variable {X : Cx} {CX : CXT} {k : Nat} {C : Addr} {sp : Sp} {E : XK} {f : Str} {pos : Pos} {e : Expr} {ta : TE}
theorem pe_cp (D : Cp X.prog X.w X.K X.mg X.base CX k C f sp) (hr : Room (k + 1) X.A) (hG : Gd X.A)
    (he : PE X e ta) (hx : Passes CX X.nox E)
    (hab : attributeBase e f X.env (eval e X.env) = eval e X.env := by rfl) :
    PE X (.Attribute e f pos) (tProp C sp [] E ta) := by
  obtain ⟨p, g, fd, c, hp, hb, F⟩ := D
  constructor
  intro pins s σ H Q I h
  refine attr_of hab (thn (he.run pins s σ H _ I h) fun u s1 ⟨x, H1, I1, rx, a, dx, fs, ex, ea, q⟩ => ?_)
  obtain rfl := ex
  have ru : u = Value.ref a := rx
  rw [ru]
  obtain ⟨mA, O, _⟩ := ins_get I1.hok ea
  obtain ⟨od, J, _⟩ := O.look
  obtain ⟨rest, hrec⟩ := hp.rec_
  have I2 := I1.tok (s1.toks + 1)
  have pg := PySem.W.plainGet_of (c.get f)
  have hc : (PySem.W.clsIn X.K C).isSome = true := by
    obtain ⟨cd, z, _⟩ := PySem.W.any_some c.hd
    rw [z]; rfl
  refine PySem.W.get_bind I1.kIn J pg.1 (PySem.W.findObj_data hc hp.at_ hp.get hp.tak) pg.2
    (wpAny_call (PySem.W.prop_get (s := { s1 with toks := s1.toks + 1 }) I1.kIn hrec ?_))
  refine codeAny_mono (F.run X.A.in1 X.stack _ H1 ⟨[.ref a], []⟩ [.ref a] [.ref a] Q E hr.in1 hG.in1
    I2.env0.in1 (hb _ [.ref a] I2.kIn rfl) (.cons rfl .nil) q) fun r s' hq => ?_
  match r, hq with
  | .error er, hq => exact False.elim (hx pins σ H1 _ er s' (I2.wish _) hq)
  | .ok (.ret v), hq =>
    obtain ⟨y, H', I3, rv, q3⟩ := I2.after hq
    show wpAny _ _ (handedOut v) _ _ _
    rw [PySem.W.handedOut_of (handed_of rv)]
    exact wpAny_pure ⟨y, H', I3, rv, q3⟩
  | .ok .next, hq => exact False.elim hq
  | .ok .brk, hq => exact False.elim hq
  | .ok .cont, hq => exact False.elim hq
end

/-! ### the tape -/
def tapeO (dg mx : Int) : HO := .dK [(.inr "digits", .int dg), (.inr "mixed", .int mx)]
structure TapeOk (dg mx : Int) : Prop where
  d0 : 0 ≤ dg
  m0 : 0 ≤ mx
  m1 : mx < 4294967296
def IsTape (o : HO) : Prop := ∃ dg mx, o = tapeO dg mx ∧ TapeOk dg mx
theorem s_dm : ¬ (("digits" : Str) = ("mixed" : Str)) := by decide +kernel
theorem s_md : ¬ (("mixed" : Str) = ("digits" : Str)) := by decide +kernel
theorem k_dm : ¬ ((Sum.inr ("digits" : Str) : Key) = Sum.inr ("mixed" : Str)) := by decide +kernel
theorem k_md : ¬ ((Sum.inr ("mixed" : Str) : Key) = Sum.inr ("digits" : Str)) := by decide +kernel
section
variable {H : Hp} {t : Addr} {dg mx z : Int}
theorem tape_dg (h : H t = some (tapeO dg mx)) : DGet H t (.str "digits") (some (.int dg)) := by
  have e := DGet.k (k := Sum.inr ("digits" : Str)) h
  rw [valV_pos rfl] at e
  exact e
theorem tape_mx (h : H t = some (tapeO dg mx)) : DGet H t (.str "mixed") (some (.int mx)) := by
  have e := DGet.k (k := Sum.inr ("mixed" : Str)) h
  rw [valV_neg k_dm, valV_pos rfl] at e
  exact e
theorem tape_pd (h : H t = some (tapeO dg mx)) : DPut H t (.str "digits") (.int z) (upd H t (tapeO z mx)) := by
  have e := DPut.k (k := Sum.inr ("digits" : Str)) (v := .int z) h (small1000 (by show 2 ≤ 1000; decide))
  have q : putK [((Sum.inr "digits" : Key), V.int dg), (.inr "mixed", .int mx)] (Sum.inr "digits") (V.int z)
      = [(.inr "digits", .int z), (.inr "mixed", .int mx)] := by
    unfold putK
    simp [s_md]
  rw [q] at e
  exact e
theorem tape_pm (h : H t = some (tapeO dg mx)) : DPut H t (.str "mixed") (.int z) (upd H t (tapeO dg z)) := by
  have e := DPut.k (k := Sum.inr ("mixed" : Str)) (v := .int z) h (small1000 (by show 2 ≤ 1000; decide))
  have q : putK [((Sum.inr "digits" : Key), V.int dg), (.inr "mixed", .int mx)] (Sum.inr "mixed") (V.int z)
      = [(.inr "digits", .int dg), (.inr "mixed", .int z)] := by
    unfold putK
    simp [s_dm]
  rw [q] at e
  exact e
end
/-- a number from 0 to many - 1; the tape goes on -/
def spPick : Sp := fun vs H Q _ => ∃ (t : Addr) (o : HO) (n : Int), vs = [.ref t, .int n] ∧ H t = some o ∧ IsTape o ∧
  1 ≤ n ∧ n ≤ 1000000 ∧ ∀ (k : Int) (o' : HO), 0 ≤ k → k < n → IsTape o' → Q (.int k) (upd H t o')
theorem bits32 {m : Int} (h0 : 0 ≤ m) (h1 : m < 4294967296) : Builtin.Int.intBits m ≤ 32 := by
  unfold Builtin.Int.intBits
  split
  · omega
  · have : m.natAbs.log2 < 32 := PySem.Flt.log2_lt_of (by decide) (by omega)
    omega
theorem pow32 {m j : Int} (h0 : 0 ≤ m) (h1 : m < 4294967296) (hj : 0 ≤ j) (hj2 : j ≤ 100) : CPowX m j := by
  refine ⟨hj, ?_⟩
  have b := bits32 h0 h1
  have : (Builtin.Int.intBits m : Int) * j ≤ 32 * 100 :=
    Int.mul_le_mul (by omega) hj2 hj (by decide)
  omega
end Rm

set_option maxRecDepth 100000
set_option maxHeartbeats 4000000
namespace Rm
open PySem PySem.Spec L2
open PyProof.Rows hiding St

theorem ib_lt {x : Int} {n : Nat} (h : Builtin.Int.intBits x ≤ n) : x.natAbs < 2 ^ n := by
  unfold Builtin.Int.intBits at h
  split at h
  · rename_i e
    have : x = 0 := by simpa using e
    subst this
    exact Nat.two_pow_pos n
  · rename_i e
    have e' : x.natAbs ≠ 0 := by
      intro z
      exact e (by simp [Int.natAbs_eq_zero.mp z])
    have q := (Nat.log2_lt e').1 (show x.natAbs.log2 < n by omega)
    exact q
theorem ib_of {x : Int} {n : Nat} (h : x.natAbs < 2 ^ n) : Builtin.Int.intBits x ≤ n := by
  unfold Builtin.Int.intBits
  split
  · omega
  · rename_i e
    have e' : x.natAbs ≠ 0 := by
      intro z
      exact e (by simp [Int.natAbs_eq_zero.mp z])
    have := (Nat.log2_lt e').2 h
    omega
theorem ib_mul {x y : Int} {n m : Nat} (h : Builtin.Int.intBits x ≤ n) (h' : Builtin.Int.intBits y ≤ m) :
    Builtin.Int.intBits (x * y) ≤ n + m := by
  apply ib_of
  rw [Int.natAbs_mul, Nat.pow_add]
  exact Nat.mul_lt_mul'' (ib_lt h) (ib_lt h')
theorem ib_mono {x : Int} {n m : Nat} (h : Builtin.Int.intBits x ≤ n) (hm : n ≤ m) : Builtin.Int.intBits x ≤ m :=
  Nat.le_trans h hm
theorem ib_add {x y : Int} {n : Nat} (h : Builtin.Int.intBits x ≤ n) (h' : Builtin.Int.intBits y ≤ n) :
    Builtin.Int.intBits (x + y) ≤ n + 1 := by
  apply ib_of
  have a := ib_lt h
  have b := ib_lt h'
  have c := Int.natAbs_add_le x y
  rw [Nat.pow_succ]
  omega
/-- the tape's mixing: the power of a cell's square -/
theorem mix_pow {m c : Int} (h0 : 0 ≤ m) (h1 : m < 4294967296) (hc : Builtin.Int.intBits c ≤ 1048576) :
    CMulX m 30013 ∧ CMulX c c ∧ CPowX (m * 30013 + c * c + 11) 2 := by
  have bm := bits32 h0 h1
  have b3 : Builtin.Int.intBits (30013 : Int) ≤ 32 := bits32 (by decide) (by decide)
  have b1 : Builtin.Int.intBits (11 : Int) ≤ 32 := bits32 (by decide) (by decide)
  have s1 := ib_add (n := 2097152) (ib_mono (ib_mul bm b3) (by decide)) (ib_mono (ib_mul hc hc) (by decide))
  have s2 := ib_add (n := 2097153) s1 (ib_mono b1 (by decide))
  refine ⟨?_, ?_, by decide, ?_⟩
  · unfold CMulX; omega
  · unfold CMulX; omega
  · have e : (2 : Int) ^ 27 = 134217728 := by decide
    rw [e]
    omega
/-- a list that is read stands while the tape goes on -/
theorem sq_tape {K : PySem.W.Frag} {H : Hp} {t l : Addr} {o o' : HO} {xs : List V} (h : SqL K H l xs)
    (ht : H t = some o) (ho : IsTape o) : SqL K (upd H t o') l xs := by
  obtain ⟨dg, mx, rfl, _⟩ := ho
  rcases h with (h | ⟨ob, h⟩) | h
  · have ne : l ≠ t := fun e => by
      subst e; rw [ht] at h; cases h
    exact .inl (.inl (by rw [upd_ne ne]; exact h))
  · have ne : l ≠ t := fun e => by
      subst e; rw [ht] at h; cases h
    exact .inl (.inr ⟨ob, by rw [upd_ne ne]; exact h⟩)
  · exact .inr h
/-- a drawn item -/
def spOne (K : PySem.W.Frag) : Sp := fun vs H Q _ => ∃ (t l : Addr) (o : HO) (xs : List V), vs = [.ref t, .ref l] ∧
  H t = some o ∧ IsTape o ∧ SqL K H l xs ∧ 1 ≤ xs.length ∧ xs.length ≤ 1000000 ∧
  ∀ (i : Nat) (v : V) (o' : HO), xs[i]? = some v → IsTape o' → Q v (upd H t o')
/-- a new tape -/
def spTape (K : PySem.W.Frag) : Sp := fun vs H Q _ => ∃ (a : Addr) (ns : List Int) (z : Int), vs = [.ref a, .int z] ∧
  SqL K H a (ns.map V.int) ∧ ns.length ≤ 63 ∧ (∀ n ∈ ns, Builtin.Int.intBits n ≤ 1048576) ∧ 0 ≤ z ∧ z ≤ 1000 ∧
  ∀ (p : Addr) (o : HO), H p = none → IsTape o → Q (.ref p) (upd H p o)
end Rm

set_option maxRecDepth 100000
set_option maxHeartbeats 4000000
namespace Rm
open PySem PySem.Spec L2
open PyProof.Rows hiding St

/-! ### an own error whose __init__ says super().__init__(text); self.y = y -/
/-- the built-in __init__, bound to the error e, is called -/
theorem call_mw {prog : Program} {w : World} {A : Around} {E : Value → Shared → Prop} {h : Heap}
    {g : Array GenState} {d : Drawn} {tk : Nat} {os : OsState} {u e C t0 : Addr} {dv : Option Addr}
    {rest : List Value} {Q : Value → Shared → Prop} {nm q : Str} {N : Addr} {bs bm : List Value}
    {hdct : Bool} {sn : List Str} {sub : List Value} {ab : Bool} {col : Option Bool} {dd : Option Addr}
    {k0 k1 k2 k3 k5 : Option Value}
    (hC : h.get? C = some (excClassObj nm q C N bs bm hdct sn sub ab col dd k0 k1 k2 k3 k5 "ValueError.__new__"))
    (he : h.get? e = some (PySem.W.excObj C t0 dv .none))
    (hu : h.get? u = some (PySem.W.kxs_mw "ValueError.__init__" e)) (hz : rest.length ≤ sizeLine)
    (k : ∀ h', (∀ b o, b ≠ e → h.get? b = some o → h'.get? b = some o) →
      h'.get? e = some (PySem.W.excObj C h.objs.size dv .none) → Q .none ⟨h', g, d, tk, os⟩) :
    wpAny (model prog w) A (call (.ref u) rest) Q E ⟨h, g, d, tk, os⟩ := by
  apply wpAny_call
  apply codeAny_of_tree
  show wpAny _ A.in1 (callAny (.ref u) ⟨rest, []⟩) _ _ _
  unfold callAny
  apply wpAny_bind
  apply wpAny_load hu
  have t1 : (Value.type "method-wrapper" == Value.type "method") = false := by decide
  have t2 : (Value.type "method-wrapper" == Value.type "builtin_function_or_method") = false := by decide
  have t3 : (Value.type "method-wrapper" == Value.type "method-wrapper") = true := by decide
  simp only [PySem.W.kxs_mw, t1, t2, t3, Bool.false_or, Bool.or_true, if_true]
  refine PySem.W.KFB.if_so (by decide) ?_
  apply wpAny_bind
  refine PySem.W.check_bound_init F.excBase_ValueError.toExcCallFacts hC he rfl ?_
  apply wpAny_pure
  refine ⟨plainId_quiet F.excBase_ValueError.init.plain _, codeAny_builtin F.excBase_ValueError.initEntry ?_⟩
  exact PySem.W.exc_init_tree (cls := .ref C) (t0 := t0) (dv := dv) (c2 := .none) (c3 := .none)
    (b4 := .bool false) he hz fun h' k1 k2 _ => k h' k1 k2

/-- what the written part says of the error class at C, its def f of __init__ (name, text), and what these lean on -/
structure ErrC (prog : Program) (K : PySem.W.Frag) (C f : Addr) (qual y : Str) (params : Arguments)
    (body : List Stmt) (scope : Scope) (fd : FuncData) : Prop where
  ox : OexC K C
  fn : ∃ (oc : Value) (od : Option Addr) (dV kV doc pm : Value) (an : Option Addr) (cda cc : Addr) (ct : Value)
    (osl : Array (Option Value)) (ccl cl : Value) (cdd cld : Option Addr) (vs : Array Value) (ccs csl : Array (Option Value)) (file : Str) (tf : Tok),
    fd = PySem.W.ksFn "__init__" qual params body scope dV kV doc pm an (.ref cda) ct cc ∧
    K.lookup f = some ⟨oc, od, .func fd, osl⟩ ∧ PySem.W.codeIn K (.ref cda) qual = true ∧
    K.lookup cda = some ⟨ccl, cdd, .fields vs, ccs⟩ ∧ vs[2]? = some (.str file tf) ∧
    ((prog.main.file : Str) == file) = true ∧ K.lookup cc = some ⟨cl, cld, .cell (some (.ref C)), csl⟩
  any_ : PySem.W.nsIn K cStatics "thirdparty.any" = some none
  sup : PySem.W.ks_superIn K C C "__init__" = some (some (.builtin "ValueError.__init__"))
  sub : PySem.W.subIn K (.ref C) (.type "ValueError") = some true
  self_ : PySem.W.mroIn K C (.ref C) = some true
  no : PySem.W.findIn K (.ref C) y = some none
  ini : PySem.W.findIn K (.ref C) "__init__" = some (some (.ref f))
  typ : PySem.W.typeIn K (.ref f) = some (.type "function")

/-- the promise of such an __init__ -/
def spErr (K : PySem.W.Frag) (C : Addr) (y : Str) : Sp := fun vs H Q _ => ∃ (a : Addr) (v : V), vs = [.ref a, v] ∧
  H a = some (exo a C none) ∧ ∀ dx, H dx = none → dx ≠ a →
    Q .non (upd (upd H dx (exd dx [(y, v)])) a (exo a C (some dx)))


section
variable {P : Program} {w : World} {K : PySem.W.Frag} {mg : Str → Option Value} {base : Heap}
theorem fn_err {f C : Addr} {fd : FuncData} {qual y : Str} {params : Arguments} {body : List Stmt} {scope : Scope}
    {CX : CXT} {msg : Str} {j : Nat} {p0 p1 p2 p3 p4 p5 q0 q1 q2 q3 : Pos} {ar : Arg} {ars : List Arg}
    (T : ErrC P K C f qual y params body scope fd)
    (hbody : body = [.Expr (.Call (.Attribute (.Call (.Name "super" p0) [] [] p1) "__init__" p2) [.Constant (.str msg) j p3] [] p4) p5,
      .Assign [.Attribute (.Name "self" q0) y q1] (.Name y q2) q3])
    (hsc : scope.names = ([(("self" : Str), NameKind.local), (y, .local), (("__class__" : Str), .free), (("super" : Str), .globalImplicit)] : List (Str × NameKind)))
    (hk : scope.kind = .function) (hco : scope.isCoroutine = false) (hgen : scope.isGenerator = false)
    (hpar : (params.posonlyargs ++ params.args).head? = some ar) (har : ar.arg = "self")
    (hsup : mg "super" = none) (htop : (P.main.scope.names.lookup ("super" : Str)).isSome = false)
    (hy1 : ¬ y = "self") (hy2 : ¬ y = "__class__") (hy3 : ¬ y = "super") (hmsg : msg.length ≤ 1000)
    {pl : Env → Sem Bool} (hev : ∀ env : Env,
      eval (.Call (.Attribute (.Call (.Name "super" p0) [] [] p1) "__init__" p2) [.Constant (.str msg) j p3] [] p4) env = (do
        let ov ← attributeBase (.Call (.Name "super" p0) [] [] p1) "__init__" env (eval (.Call (.Name "super" p0) [] [] p1) env)
        standAt p2.atName
        let (g, first) ← holding [ov] (getMethod ov "__init__" (pl env))
        callWith p4 g first (backTo p4 (starEach [.Constant (.str msg) j p3] env)) []))
    (hyd : (y == ("__debug__" : Str)) = false) (hyc : (y == ("__classdict__" : Str)) = false) :
    FnG P w K mg base CX 2 f fd ([("self" : Str), y] : List Str) (spErr K C y) := by
  refine ⟨fun vs H Q E h => ?_, fun A outer s H args us vs Q E hr hG e0 hb r hsp => ?_⟩
  · obtain ⟨a, v, rfl, _⟩ := h
    rfl
  obtain ⟨oc, od, dV, kV, doc, pm, an, cda, cc, ct, osl, ccl, cl, cdd, cld, fvs, ccs, csl, file, tf, rfl, lk, hcd, lcd, hvs, hfile, lcc⟩ := T.fn
  obtain ⟨a, v, rfl, ha, q⟩ := hsp
  obtain ⟨u0, u, rfl, r0, ru⟩ := vals2 r
  obtain rfl : u0 = Value.ref a := r0
  have up : ∀ b o, base.get? b = some o → s.heap.get? b = some o := fun b o e => (e0.bs b o e).1
  have KX : K.In s.heap := e0.mod.kin.keeps up
  have lim : s.heap.NoLimit := e0.mod.nolimit.keeps up
  have l1 : scope.names.lookup ("self" : Str) = some .local := by rw [hsc]; rfl
  have l2 : scope.names.lookup y = some .local := by
    rw [hsc]
    have e : (y == ("self" : Str)) = false := by simpa using hy1
    simp [List.lookup, e]
  have l3 : scope.names.lookup ("__class__" : Str) = some .free := by
    rw [hsc]
    have e : (("__class__" : Str) == y) = false := by simpa using fun z => hy2 z.symm
    have e2 : (("__class__" : Str) == ("self" : Str)) = false := by decide +kernel
    simp [List.lookup, e, e2]
  have l4 : scope.names.lookup ("super" : Str) = some .globalImplicit := by
    rw [hsc]
    have e : (("super" : Str) == y) = false := by simpa using fun z => hy3 z.symm
    have e2 : (("super" : Str) == ("self" : Str)) = false := by decide +kernel
    have e3 : (("super" : Str) == ("__class__" : Str)) = false := by decide +kernel
    simp [List.lookup, e, e2, e3]
  refine ks_codeAny_call_defAt (fd := PySem.W.ksFn "__init__" qual params body scope dV kV doc pm an (.ref cda) ct cc)
    (body := body) (binds := ([("self" : Str), y] : List Str).zip [Value.ref a, u]) hr.depth (KX _ _ lk) rfl lim
    (PySem.W.codeRec_of KX hcd) rfl hb ?_ ?_ (fun h1 hns hk1 => ?_) hco hgen hk
  · intro x hx
    have hx' : x ∈ scope.names := hx
    rw [hsc] at hx'
    simp only [List.mem_cons, List.not_mem_nil, or_false] at hx'
    rcases hx' with rfl | rfl | rfl | rfl <;> simp
  · intro x hx
    simp only [List.zip_cons_cons, List.zip_nil_left, List.mem_cons, List.not_mem_nil, or_false] at hx
    rcases hx with rfl | rfl
    · exact l1
    · exact l2
  generalize hE : callEnv (PySem.W.ksFn "__init__" qual params body scope dV kV doc pm an (.ref cda) ct cc) s.heap.objs.size f = env
  have eenv : env = PySem.W.ksEnv qual scope s.heap.objs.size f (.ref cda) cc := by rw [← hE] <;> rfl
  have hcells : env.cells = ([(("__class__" : Str), cc)] : List (Str × Addr)) := by rw [eenv]
  let X : Cx := { prog := P, w := w, K := K, mg := mg, base := base, A := A.deeper env, N := [("self" : Str), y], s_0 := s, H_0 := H, env := env, outer := outer, stack := env :: outer, ex := [], calm := true, fn := fun _ => false, pn := [], xe := fun _ _ => False }
  have bcc : base.get? cc = some ⟨cl, cld, .cell (some (.ref C)), csl⟩ := e0.mod.kin _ _ lcc
  have okX : X.Ok := {
    mod := e0.mod
    kind := by show env.scope.kind = .function; rw [eenv]; exact hk
    glob := by show env.globals = _; rw [eenv]
    blt := by show env.builtins = _; rw [eenv]
    above := by show s.heap.objs.size ≤ env.locals; rw [eenv]; exact Nat.le_refl _
    inj := fun x z c h1 h2 => by
      have h1' : env.cells.lookup x = some c := h1
      have h2' : env.cells.lookup z = some c := h2
      rw [hcells] at h1' h2'
      have k1 : x = "__class__" := by
        have := PySem.mem_of_lookup h1'
        simp at this; exact this.1
      have k2 : z = "__class__" := by
        have := PySem.mem_of_lookup h2'
        simp at this; exact this.1
      rw [k1, k2]
    has := fun x hx => by
      have hx' : scope.names.lookup x = some .cell ∨ scope.names.lookup x = some .free := by
        have z : env.scope.names.lookup x = some .cell ∨ env.scope.names.lookup x = some .free := hx
        rw [eenv] at z; exact z
      have hm : x = "__class__" := by
        rcases hx' with hx' | hx' <;> (have := PySem.mem_of_lookup hx'; rw [hsc] at this; simp at this)
        exact this
      exact ⟨cc, by show env.cells.lookup x = some cc; rw [hcells, hm]; rfl⟩
    cab := fun x c h _ => by cases h
    hd := fun _ => hr.hd
    frames := Around.frames_deeper e0.frames
    stk := .inr ⟨rfl, by show env.frame = some env.locals; rw [eenv]⟩
    exf := fun b z => by cases z
    bs := e0.bs
    bsz := e0.bsz
    noex := fun b o _ z => by cases z
    exfs := fun b z => by cases z
    funs := e0.funs
    frf := e0.frf }
  have elocs : env.locals = s.heap.objs.size := by rw [eenv]
  have ekind : env.scope.kind = .function := by rw [eenv]; exact hk
  have enames : env.scope.names = scope.names := by rw [eenv]
  have bm : ([("self" : Str), y].zip [Value.ref a, u]).reverse = [(y, u), (("self" : Str), Value.ref a)] := rfl
  rw [bm] at hns
  have ey : (("self" : Str) == y) = false := by simpa using fun z => hy1 z.symm
  have m1 : List.lookup ("self" : Str) [(y, u), (("self" : Str), Value.ref a)] = some (Value.ref a) := by
    simp [List.lookup, ey]
  have m2 : List.lookup y [(y, u), (("self" : Str), Value.ref a)] = some u := by
    simp [List.lookup]
  have hns' : h1.Ns env.locals (fun x => List.lookup x [(y, u), (("self" : Str), Value.ref a)]) := by rw [elocs]; exact hns
  have hcc1 : (Heap.IsCell h1 cc (some (.ref C))) := ⟨_, hk1 _ _ (up _ _ bcc), rfl⟩
  have onecell : ∀ x c, env.cells.lookup x = some c → c = cc := fun x c hx => by
    rw [hcells] at hx
    have := PySem.mem_of_lookup hx
    simp at this
    exact this.2
  have I : Inv X [] [some (.ref a), some v] H { s with heap := h1, toks := s.toks + ([("self" : Str), y].zip [Value.ref a, u]).length } := {
    ok := okX
    os := rfl
    bare := e0.bare
    base := Un.kept hk1
    loc := ⟨_, hns', fun i x z n1 n2 n3 => by
      match i, n1, n2 with
      | 0, n1, n2 =>
        cases (show some ("self" : Str) = some x from n1)
        cases (show some (some (V.ref a)) = some (some z) from n2)
        exact ⟨_, rfl, .inl ⟨by show env.scope.names.lookup _ = _; rw [enames]; exact l1, m1⟩⟩
      | 1, n1, n2 =>
        cases (show some y = some x from n1)
        cases (show some (some v) = some (some z) from n2)
        exact ⟨u, ru, .inl ⟨by show env.scope.names.lookup _ = _; rw [enames]; exact l2, m2⟩⟩
      | i + 2, n1, n2 => cases (show (none : Option Str) = some x from n1)⟩
    cell := fun x c hx => ⟨some (.ref C), (onecell x c hx).symm ▸ hcc1⟩
    free := by show H env.locals = none; rw [elocs]; exact e0.hok.fresh (Nat.le_refl _)
    freeC := fun x c hx => by rw [onecell x c hx]; exact (e0.bs _ _ bcc).2
    pin := fun p hp => by cases hp
    hok := e0.hok.kept hk1
    len := rfl }
  subst hbody
  obtain ⟨nm, qn, N, bs, bm', sn, sub, ab, col, dd, k0, k1, k2, k3, k5, lC, hbm⟩ := T.ox.cls
  have hcl : PySem.W.clsIn K C = some { name := nm, bases := bs, mro := .ref C :: bm', ns := N, qualname := qn, hasDict := true, slotNames := sn, subclasses := sub, abstract := ab, collection := col, hasDel := false } := by
    unfold PySem.W.clsIn; rw [lC] <;> rfl
  refine ks_wpAt_execs_cons (ks_wpAt_Expr_any (ks_wpAt_MethodCall ?_ (hev env)) I.quiet)
  have e1 : env.kindOf "super" = some .globalImplicit := by show env.scope.names.lookup _ = _; rw [enames]; exact l4
  have e2 : env.kindOf "__class__" = some .free := by show env.scope.names.lookup _ = _; rw [enames]; exact l3
  have e3 : env.kindOf "self" = some .local := by show env.scope.names.lookup _ = _; rw [enames]; exact l1
  have e4 : env.func = some f := by rw [eenv]
  have e5 : env.code = .ref cda := by rw [eenv]
  refine ks_wpAt_super_base e1 e2 (by decide +kernel) e4 (hk1 _ _ (KX _ _ lk)) rfl hpar e5 (hk1 _ _ (KX _ _ lcd)) rfl hvs hfile htop ?_
  obtain ⟨mb, b1, b2⟩ := e0.mod.blt
  have up1 : ∀ b o, base.get? b = some o → h1.get? b = some o := fun b o e => hk1 _ _ (up b o e)
  have g1 : env.globals = mainGlobals := by rw [eenv]
  have g2 : env.builtins = builtinsNs := by rw [eenv]
  refine PySem.W.ks_loadName_global ekind e1 (Calls.loadGlobal_builtin (by rw [g1]; exact e0.mod.glob.keeps up1) hsup (by rw [g2]; exact b1.keeps up1) ((b2 _ (by decide +kernel)).trans (by decide +kernel)) ⟨rfl, ?_⟩)
  refine wpAny_loadName_free ekind e2 (by rw [hcells]; rfl) hcc1 ?_
  rw [har]
  refine wpAny_loadName_local ekind e3 hns' m1 ?_
  have KX1 : K.In h1 := KX.keeps hk1
  refine ks_wpAny_isType_cls (KX1 _ _ lC) rfl ⟨rfl, ?_⟩
  obtain ⟨t1, hx1⟩ := exo_at I.hok ha
  have iat : PySem.W.InstAt h1 a (PySem.W.excObj C t1 none .none) C none := ⟨hx1, rfl, rfl, trivial⟩
  refine ks_wpAny_call_super (KX1 _ _ lC) rfl hx1 rfl (fun c e => by cases e) (PySem.W.looks_mroIn KX1 T.self_) fun h2 hso hk2 => ?_
  have I2 := I.kept (t' := s.toks + ([("self" : Str), y].zip [Value.ref a, u]).length) hk2
  have KX2 : K.In h2 := KX1.keeps hk2
  have iat2 : PySem.W.InstAt h2 a (PySem.W.excObj C t1 none .none) C none := ⟨hk2 _ _ hx1, rfl, rfl, trivial⟩
  have hsu := T.sup
  unfold PySem.W.ks_superIn at hsu
  rw [hcl] at hsu
  refine PySem.W.kxs_getMethod PySem.W.kxs_ValueError hso (PySem.W.looks_opaque KX2 T.any_) (l₀ := .ref C :: bm')
    ((PySem.W.looks_clsIn KX2 hcl).andThen .now) rfl KX2 hsu (iat2.type.andThen (PySem.W.looks_subIn KX2 T.sub))
    (PySem.W.ks_ne KX2 iat2 hcl) (by decide +kernel) ?_
  have kp : ∀ b o, h2.get? b = some o → (h2.push (PySem.W.kxs_mw "ValueError.__init__" a)).get? b = some o :=
    fun b o e => Heap.get?_push_of_some _ e
  have I3 := I2.kept (t' := s.toks + ([("self" : Str), y].zip [Value.ref a, u]).length + 1) kp
  have hmw : (h2.push (PySem.W.kxs_mw "ValueError.__init__" a)).get? h2.objs.size = some (PySem.W.kxs_mw "ValueError.__init__" a) := Heap.get?_push_at rfl rfl
  refine PySem.W.kxs_callWith (i := "ValueError.__init__") (x := a) rfl (Calls.evalArgs_plain ?_)
  refine Calls.spliced_cons (Calls.Constant_str (k := j) (pos := p3) ?_)
  refine Calls.spliced_nil ⟨hmw, ?_⟩
  have I3' := I3.tok (s.toks + ([("self" : Str), y].zip [Value.ref a, u]).length + 1 + 1)
  refine call_mw ((KX2.keeps kp) _ _ lC) (kp _ _ (hk2 _ _ hx1)) hmw (by show 1 ≤ sizeLine; decide) fun h4 k4 hx4 => ?_
  have J := I3'.write (t' := s.toks + ([("self" : Str), y].zip [Value.ref a, u]).length + 1 + 1) (x := a) (e := a) (o := exo a C none) (by rw [ha]; exact True.intro) (.inl rfl) k4 ⟨_, hx4⟩ (exo_ok hx4)
  have eu : upd H a (exo a C none) = H := by
    funext b
    by_cases hb' : b = a
    · rw [hb', upd_same, ha]
    · rw [upd_ne hb']
  rw [eu] at J
  show PySem.wpAt _ _ _ _ _ _ _
  refine wpAt_of_wpAny ?_
  have P1 : PE X (.Name "self" q0) (tVar 0) := pe_var (i := 0) rfl (.inl e3) (by decide) (by decide)
  have P2 : PE X (.Name y q2) (tVar 1) := pe_var (i := 1) rfl (.inl (by show env.scope.names.lookup _ = _; rw [enames]; exact l2)) hyd hyc
  have body2 : PSs X [.Assign [.Attribute (.Name "self" q0) y q1] (.Name y q2) q3] (tOst K y (tVar 0) (tVar 1)) := pss_one (ps_ost P1 P2)
  refine wpAny_mono (body2.run [] _ _ H { nx := fun _ H' => Q .non H', rt := fun _ _ => False } J
    ⟨v, rfl, V.ref a, rfl, a, C, rfl, T.ox, T.no, .inl ⟨ha, fun dx n ne => q dx n ne⟩⟩) (fun fl s' hs => ?_) fun _ _ z => False.elim z
  match fl, hs with
  | .next, ⟨σ', H', J', q'⟩ => exact ⟨V.non, H', J'.os, J'.bare, J'.base, J'.hok, rfl, q'⟩
  | .ret _, ⟨_, _, _, _, _, q'⟩ => exact False.elim q'
  | .brk, ⟨_, _, _, q'⟩ => exact False.elim q'
  | .cont, ⟨_, _, _, q'⟩ => exact False.elim q'
end
end Rm

set_option maxRecDepth 100000
set_option maxHeartbeats 4000000
namespace Rm
open PySem PySem.Spec L2
open PyProof.Rows hiding St

/-- an own error class: x names the class at C, whose __init__ stores y -/
def Er (P : Program) (w : World) (K : PySem.W.Frag) (mg : Str → Option Value) (base : Heap) (x : Str)
    (C : Addr) (y : Str) : Prop :=
  ∃ f fd, mg x = some (.ref C) ∧ OexC K C ∧ PySem.W.findIn K (.ref C) "__init__" = some (some (.ref f)) ∧
    PySem.W.typeIn K (.ref f) = some (.type "function") ∧ PySem.W.keepIn K (.ref C) = true ∧
    Binds K fd [("self" : Str), y] [] ∧ FnG P w K mg base CX0 2 f fd [("self" : Str), y] (spErr K C y)

section
variable {X : Cx} {C : Addr} {y : Str}
/-- the call of the class: what stands behind it -/
structure Born (X : Cx) (pins : List (Addr × Obj)) (σ : L2.St) (H : Hp) (s : Shared) (C : Addr) (y : Str) (v : V) (u : Value) (s' : Shared) : Prop where
  ex : ∃ (a d : Addr) (hp2 : Heap), u = .ref a ∧ s.heap.objs.size ≤ a ∧ H a = none ∧ H d = none ∧ d ≠ a ∧
    (∀ b o, s.heap.get? b = some o → hp2.get? b = some o) ∧
    Un (frs X.stack) [] (upd H a (exo a C none)) (upd (upd (upd H a (exo a C none)) d (exd d [(y, v)])) a (exo a C (some d))) hp2 s'.heap ∧
    HOk X.prog X.w (upd (upd (upd H a (exo a C none)) d (exd d [(y, v)])) a (exo a C (some d))) s'.heap ∧ s'.os = s.os ∧ AllBare s'.gens

theorem born {x : Str} {pins : List (Addr × Obj)} {σ : L2.St} {H : Hp} {s : Shared} {v : V} {u : Value} {E : Value → Shared → Prop}
    (D : Er X.prog X.w X.K X.mg X.base x C y) (hr : Room 3 X.A) (hG : Gd X.A) (I : Inv X pins σ H s) (r : RelV v u) :
    wpAny (model X.prog X.w) X.A (call (.ref C) [u]) (Born X pins σ H s C y v) E s := by
  obtain ⟨f, fd, hm, T, iC, tI, kC, hb, F0⟩ := D
  obtain ⟨nm, q, N, bs, bm, sn, sub, ab, col, dd, k0, k1, k2, k3, k5, lC, hbm⟩ := T.cls
  obtain ⟨hp, g, dr, tk, os⟩ := s
  have one : hp.objs.size ≤ hp.objs.size + 1 := Nat.le_succ _
  have hn : H (hp.objs.size + 1) = none := I.hok.fresh one
  let hp2 := (hp.push (PySem.W.kdv_tup [u])).push (PySem.HandSPX.excO C hp.objs.size)
  have kk : ∀ b o, hp.get? b = some o → hp2.get? b = some o := fun b o e =>
    Heap.get?_push_of_some _ (Heap.get?_push_of_some _ e)
  have hget : hp2.get? (hp.objs.size + 1) = some (PySem.HandSPX.excO C hp.objs.size) := by
    show ((hp.push _).push _).get? _ = _
    heap_get
  have I2 := I.laid (t' := tk) (a := hp.objs.size + 1) (o := exo (hp.objs.size + 1) C none) (h' := hp2) kk one (exo_ok hget)
  have both : Vals [V.ref (hp.objs.size + 1), v] [Value.ref (hp.objs.size + 1), u] := .cons rfl (.cons r .nil)
  have hsp : spErr X.K C y [V.ref (hp.objs.size + 1), v] (upd H (hp.objs.size + 1) (exo (hp.objs.size + 1) C none))
      (fun z H2 => z = .non ∧ ∃ d, H d = none ∧ d ≠ hp.objs.size + 1 ∧
        H2 = upd (upd (upd H (hp.objs.size + 1) (exo (hp.objs.size + 1) C none)) d (exd d [(y, v)])) (hp.objs.size + 1) (exo (hp.objs.size + 1) C (some d)))
      (fun _ _ _ => False) :=
    ⟨_, v, rfl, upd_same, fun d n ne => ⟨rfl, d, by rw [upd_ne ne] at n; exact n, ne, rfl⟩⟩
  refine wpAny_call (PySem.HandSPX.call_own F.excBase_ValueError (fun Y => PySem.HandSPX.refsVE_contains Y bm hbm)
    (I.kIn _ _ lC) (PySem.W.looks_findIn I.kIn iC) (fun self => PySem.W.bind_fn I.kIn self tI) (by show 1 ≤ sizeLine; decide)
    (codeAny_mono (F0.run _ X.stack _ _ ⟨[Value.ref (hp.objs.size + 1), u], []⟩ _ _ _ (fun _ _ _ => False)
      (hr.make C [u] []) (hG.make C [u] []) (I2.env0.make C [u] []) (hb _ [Value.ref (hp.objs.size + 1), u] I2.kIn rfl) both hsp)
      fun rr s' hq => ?_))
  match rr, hq with
  | .ok (.ret z), ⟨zz, H2, os2, bare2, un2, hok2, rz, ez, d, hd, ne, eH⟩ =>
    subst ez
    subst eH
    exact ⟨rz, ⟨_, d, hp2, rfl, one, hn, hd, ne, kk, un2, hok2, os2, bare2⟩⟩
  | .error er, hq => exact False.elim hq
  | .ok .next, hq => exact False.elim hq
  | .ok .brk, hq => exact False.elim hq
  | .ok .cont, hq => exact False.elim hq

theorem born_eq {H : Hp} {a d : Addr} {o1 o2 o3 : HO} (ne : d ≠ a) :
    upd (upd (upd H a o1) d o2) a o3 = upd (upd H d o2) a o3 := by
  funext b
  by_cases h1 : b = a
  · rw [h1, upd_same, upd_same]
  · rw [upd_ne h1, upd_ne h1]
    by_cases h2 : b = d
    · rw [h2, upd_same, upd_same]
    · rw [upd_ne h2, upd_ne h2, upd_ne h1]

/-- C(e) as a value: a new error, its dict -/
def tBorn (C : Addr) (y : Str) (te : TE) : TE := fun σ H Q => tCons te tNil σ H fun vs H1 => ∃ v, vs = [v] ∧ ∀ a d, H1 a = none → H1 d = none → d ≠ a →
  Q (.ref a) (upd (upd H1 d (exd d [(y, v)])) a (exo a C (some d)))
/-- C(e) to be raised: its dict stands as an exception's dict -/
def tErr (C : Addr) (y : Str) (te : TE) : L2.St → Hp → XK → Prop := fun σ H Q => tCons te tNil σ H fun vs H1 => ∃ v, vs = [v] ∧ ∀ d, H1 d = none →
  Q (.ref C) (some d) (upd H1 d (.xd [(y, v)]))
variable {x : Str} {e : Expr} {te : TE} {p pos : Pos}
theorem pe_er (D : Er X.prog X.w X.K X.mg X.base x C y) (hr : Room 3 X.A) (hG : Gd X.A) (he : PE X e te) (hg : Gl X x := by rfl)
    (hdb : (x == ("__debug__" : Str)) = false := by decide)
    (hs : starEach [e] X.env = (false, eval e X.env) :: starEach [] X.env := by rfl)
    (hpl : (backTo pos (starEach [] X.env)).any (·.1) = false := by rfl) :
    PE X (.Call (.Name x p) [e] [] pos) (tBorn C y te) := by
  have D' := D
  obtain ⟨f, fd, hm, T, iC, tI, kC, hb, F0⟩ := D'
  refine ⟨fun pins s σ H Q I h => wpAny_Call_Name_kw (ld_glob I hg hm
    (PySem.W.callWith_K (h₀ := X.base) I.ok.mod.kin kC
      (thn ((pa_cons (X := X) (es := []) he pa_nil hs).run pos pins s σ H _ I (show tCons te tNil σ H _ from h)) fun us s1 ⟨vs, H1, I1, r, v, ev, q⟩ => ⟨I1.kIn, ?_⟩) hs hpl) hdb)⟩
  subst ev
  obtain ⟨u, rfl, ru⟩ := vals1 r
  refine thn (born D hr hG I1 ru) fun u2 s2 B => ?_
  obtain ⟨a, d, hp2, rfl, sz, na, nd, ne, kk, un, hok, ho, hb2⟩ := B.ex
  rw [born_eq ne] at un hok
  refine ⟨.ref a, _, ?_, rfl, q a d na nd ne⟩
  have un0 : Un (frs X.stack) [] H1 (upd (upd H1 d (exd d [(y, v)])) a (exo a C (some d))) s1.heap s2.heap := by
    have nha : ∀ {b : Addr} {o : Obj}, s1.heap.get? b = some o → b ≠ a := fun z => Nat.ne_of_lt (Nat.lt_of_lt_of_le (Heap.lt_size z) sz)
    have upn : ∀ {b : Addr}, b ≠ a → H1 b = none → upd H1 a (exo a C none) b = none := fun hb n => by rw [upd_ne hb]; exact n
    exact {
      keep := fun b o z n hf hx => un.keep b o (kk b o z) (upn (nha z) n) hf hx
      slot := fun b o z n hf hx => un.slot b o (kk b o z) (upn (nha z) n) hf hx
      free := fun b o z n hx => un.free b o (kk b o z) (upn (nha z) n) hx
      there := fun b o z hx => un.there b o (kk b o z) hx
      tups := fun b xs z => un.tups b xs (by rw [upd_ne (ne_of_none z na)]; exact z)
      frzs := fun b o w z => un.frzs b o w (by rw [upd_ne (ne_of_none z na)]; exact z)
      tbls := fun b ps z => un.tbls b ps (by rw [upd_ne (ne_of_none z na)]; exact z) }
  exact I1.call' (ch := []) ho un0 hok hb2 fun b z => absurd z (by simp)
/-- raise C(e) -/
theorem pmk_er (D : Er X.prog X.w X.K X.mg X.base x C y) (hr : Room 3 X.A) (hG : Gd X.A) (he : PE X e te) (hg : Gl X x := by rfl)
    (hdb : (x == ("__debug__" : Str)) = false := by decide)
    (hs : starEach [e] X.env = (false, eval e X.env) :: starEach [] X.env := by rfl)
    (hpl : (backTo pos (starEach [] X.env)).any (·.1) = false := by rfl) :
    PMk X (.Call (.Name x p) [e] [] pos) (tErr C y te) := by
  have D' := D
  obtain ⟨f, fd, hm, T, iC, tI, kC, hb, F0⟩ := D'
  intro pins s σ H Q I h
  refine wpAny_Call_Name_kw (ld_glob I hg hm (PySem.W.callWith_K (h₀ := X.base) I.ok.mod.kin kC
    (thn ((pa_cons (X := X) (es := []) he pa_nil hs).run pos pins s σ H _ I (show tCons te tNil σ H _ from h)) fun us s1 ⟨vs, H1, I1, r, v, ev, q⟩ => ⟨I1.kIn, ?_⟩) hs hpl) hdb)
  subst ev
  obtain ⟨u, rfl, ru⟩ := vals1 r
  refine thn (born D hr hG I1 ru) fun u2 s2 B => ?_
  obtain ⟨a, d, hp2, rfl, sz, na, nd, ne, kk, un, hok, ho, hb2⟩ := B.ex
  obtain ⟨h1, g1, d1, t1, o1⟩ := s1
  obtain ⟨h2, g2, d2, t2, o2⟩ := s2
  have q2 := q d nd
  have eq : upd (del (upd (upd (upd H1 a (exo a C none)) d (exd d [(y, v)])) a (exo a C (some d))) a) d (.xd [(y, v)]) = upd H1 d (.xd [(y, v)]) := by
    funext b
    by_cases h1 : b = d
    · rw [h1, upd_same, upd_same]
    · rw [upd_ne h1, upd_ne h1]
      by_cases h2 : b = a
      · rw [h2, del_same, na]
      · rw [del_ne h2, upd_ne h2, upd_ne h1, upd_ne h2]
  rw [← eq] at q2
  have ed : (upd (upd (upd H1 a (exo a C none)) d (exd d [(y, v)])) a (exo a C (some d))) d = some (exd d [(y, v)]) := by
    rw [upd_ne ne, upd_same]
  exact mk_end (raises_own T.exC T.tyC) I1 sz kk un hok ho hb2 upd_same ed nd q2
end
end Rm

set_option maxRecDepth 100000
set_option maxHeartbeats 4000000
namespace Rm
open PySem PySem.Spec L2
open PyProof.Rows hiding St

/-! ### calls whose errors are wished for at the caller's names -/
section
variable {X : Cx} {CX : CXT} {k : Nat} {f C : Addr} {fd : FuncData} {ps : List Str} {sp : Sp}
variable {dvs : List V} {ds : List Value} {E : L2.St → XK} {x m : Str} {p pos apos : Pos} {e o : Expr}
variable {es : List Expr} {ta : TE} {t : TA}
/-- behind a callee's end -/
theorem cameS {pins : List (Addr × Obj)} {σ : St} {H : Hp} {s s' : Shared} {Q : VK} {r : Result}
    (hx : ∀ σ, PassesAt CX X σ (E σ)) (I : Inv X pins σ H s)
    (hq : CR CX X.stack X.prog X.w H s Q (E σ) r s') :
    wants (EP X pins σ Q) X.xe r s' := by
  match r, hq with
  | .error e, hq => exact hx σ pins H s e s' I hq
  | .ok (.ret u), hq => exact I.after hq
  | .ok .next, hq => exact False.elim hq
  | .ok .brk, hq => exact False.elim hq
  | .ok .cont, hq => exact False.elim hq

theorem goesS {pins : List (Addr × Obj)} {σ : St} {H : Hp} {s : Shared} {Q : VK}
    {us : List Value} {vs : List V}
    (F : FnG X.prog X.w X.K X.mg X.base CX k f fd ps sp) (hr : Room k X.A) (hG : Gd X.A)
    (hb : Binds X.K fd ps ds) (hd : Vals dvs ds) (hx : ∀ σ, PassesAt CX X σ (E σ))
    (I : Inv X pins σ H s) (r : Vals vs us) (h : sp (vs ++ dvs) H Q (E σ)) :
    wpAny (model X.prog X.w) X.A (call (.ref f) us) (EP X pins σ Q) X.xe s := by
  have both := r.append hd
  have hl : (us ++ ds).length = ps.length := both.length.symm.trans (F.len _ _ _ _ h)
  exact wpAny_call (codeAny_mono (F.run X.A X.stack s H ⟨us, []⟩ _ _ Q (E σ) hr hG I.env0
    (hb s us I.kIn hl) both h) fun r s' hq => cameS hx I hq)

theorem growsS {pins : List (Addr × Obj)} {σ : St} {H : Hp} {s : Shared} {Q : VK}
    {us : List Value} {vs : List V} (M : Mk X.K C f)
    (F : FnG X.prog X.w X.K X.mg X.base CX k f fd ps sp) (hr : Room (k + 1) X.A) (hG : Gd X.A)
    (hb : Binds X.K fd ps ds) (hd : Vals dvs ds) (hx : ∀ σ, PassesAt CX X σ (E σ))
    (I : Inv X pins σ H s) (r : Vals vs us)
    (h : ∀ y dx, H y = none → H dx = none → dx ≠ y →
      sp (.ref y :: (vs ++ dvs)) (upd (upd H dx (.own y)) y (.ins C dx []))
        (fun v H2 => v = .non ∧ Q (.ref y) H2) (E σ)) :
    wpAny (model X.prog X.w) X.A (call (.ref C) us) (EP X pins σ Q) X.xe s := by
  have n1 : H (s.heap.objs.size + 1) = none := I.hok.fresh (Nat.le_succ _)
  have n0 : H s.heap.objs.size = none := I.hok.fresh (Nat.le_refl _)
  have hq := h _ _ n1 n0 (Nat.ne_of_lt (Nat.lt_succ_self _))
  have I2 := Inv.made (C := C) I
  have both : Vals (V.ref (s.heap.objs.size + 1) :: (vs ++ dvs))
      (Value.ref (s.heap.objs.size + 1) :: (us ++ ds)) := .cons rfl (r.append hd)
  have hl : (Value.ref (s.heap.objs.size + 1) :: us ++ ds).length = ps.length :=
    both.length.symm.trans (F.len _ _ _ _ hq)
  refine wpAny_call (make_map (f := f) I.kIn M.makes M.init (beq_iff_eq.mp M.fn)
    (codeAny_mono (F.run _ X.stack _ _ ⟨Value.ref (s.heap.objs.size + 1) :: us, []⟩ _ _ _ (E σ)
      (hr.make C us []) (hG.make C us []) (I2.env0.make C us [])
      (hb _ (Value.ref (s.heap.objs.size + 1) :: us) I2.kIn hl) both hq) fun r s' hq' => ?_))
  match r, hq' with
  | .error er, hq' => exact hx σ pins _ _ er s' I2 hq'
  | .ok (.ret u), hq' =>
    obtain ⟨v, H', I3, rv, ev, q3⟩ := I2.after hq'
    subst ev
    exact ⟨rv, V.ref (s.heap.objs.size + 1), H', I3, rfl, q3⟩
  | .ok .next, hq' => exact False.elim hq'
  | .ok .brk, hq' => exact False.elim hq'
  | .ok .cont, hq' => exact False.elim hq'


def tCallE (sp : Sp) (E : L2.St → XK) (t : TA) : TE := fun σ H Q => t σ H fun vs H1 => sp vs H1 Q (E σ)
def tMethE (C : Addr) (m : Str) (sp : Sp) (E : L2.St → XK) (ta : TE) (t : TA) : TE := fun σ H Q => ta σ H fun x H1 =>
  ∃ a dx fs, x = .ref a ∧ H1 a = some (.ins C dx fs) ∧ fs.lookup m = none ∧ t σ H1 fun vs H2 => sp (x :: vs) H2 Q (E σ)
def tMakeE (C : Addr) (sp : Sp) (E : L2.St → XK) (t : TA) : TE := fun σ H Q => t σ H fun vs H1 => ∀ x dx, H1 x = none → H1 dx = none → dx ≠ x →
  sp (.ref x :: vs) (upd (upd H1 dx (.own x)) x (.ins C dx [])) (fun v H2 => v = .non ∧ Q (.ref x) H2) (E σ)
theorem pe_ceE (D : Ce X.prog X.w X.K X.mg X.base CX k x ps sp) (hr : Room k X.A) (hG : Gd X.A)
    (ha : PA X (e :: es) t) (hx : ∀ σ, PassesAt CX X σ (E σ)) (hg : Gl X x := by rfl)
    (hdb : (x == ("__debug__" : Str)) = false := by decide)
    (he : starEach (e :: es) X.env = (false, eval e X.env) :: starEach es X.env := by rfl)
    (hpl : (backTo pos (starEach es X.env)).any (·.1) = false := by rfl) :
    PE X (.Call (.Name x p) (e :: es) [] pos) (tCallE sp E t) :=
  let ⟨_, _, hm, hk, hb, F⟩ := D
  ⟨fun pins s σ H Q I h => wpAny_Call_Name_kw (ld_glob I hg hm
    (PySem.W.callWith_K (h₀ := X.base) I.ok.mod.kin hk
      (thn (ha.run pos pins s σ H _ I h) fun us s1 ⟨vs, H1, I1, r, q⟩ =>
        ⟨I1.kIn, goesS (dvs := []) (ds := []) F hr hG hb .nil hx I1 r (by rw [List.append_nil]; exact q)⟩) he hpl) hdb)⟩
theorem pe_cnE (D : Cn X.prog X.w X.K X.mg X.base CX k x C ps sp) (hr : Room (k + 1) X.A) (hG : Gd X.A)
    (ha : PA X (e :: es) t) (hx : ∀ σ, PassesAt CX X σ (E σ)) (hg : Gl X x := by rfl)
    (hdb : (x == ("__debug__" : Str)) = false := by decide)
    (he : starEach (e :: es) X.env = (false, eval e X.env) :: starEach es X.env := by rfl)
    (hpl : (backTo pos (starEach es X.env)).any (·.1) = false := by rfl) :
    PE X (.Call (.Name x p) (e :: es) [] pos) (tMakeE C sp E t) :=
  let ⟨_, _, hm, M, hb, F⟩ := D
  ⟨fun pins s σ H Q I h => wpAny_Call_Name_kw (ld_glob I hg hm
    (PySem.W.callWith_K (h₀ := X.base) I.ok.mod.kin M.kp
      (thn (ha.run pos pins s σ H _ I h) fun us s1 ⟨vs, H1, I1, r, q⟩ =>
        ⟨I1.kIn, growsS (dvs := []) (ds := []) M F hr hG hb .nil hx I1 r (by rw [List.append_nil]; exact q)⟩) he hpl) hdb)⟩
theorem pe_cmE {pl : Sem Bool} (D : Cm X.prog X.w X.K X.mg X.base CX k C m ps sp) (hr : Room k X.A)
    (hG : Gd X.A) (he : PE X o ta) (ha : PA X (e :: es) t) (hx : ∀ σ, PassesAt CX X σ (E σ))
    (hst : starEach (e :: es) X.env = (false, eval e X.env) :: starEach es X.env := by rfl)
    (hpl : (backTo pos (starEach es X.env)).any (·.1) = false := by rfl)
    (ht : eval (.Call (.Attribute o m apos) (e :: es) [] pos) X.env = (do
      let ov ← eval o X.env
      standAt apos.atName
      let (g, first) ← holding [ov] (getMethod ov m pl)
      callWith pos g first (backTo pos (starEach (e :: es) X.env))
        (backToKw pos (keywordEach [] X.env))) := by rfl) :
    PE X (.Call (.Attribute o m apos) (e :: es) [] pos) (tMethE C m sp E ta t) := by
  obtain ⟨f, fd, c, hm, hb, F⟩ := D
  constructor
  intro pins s σ H Q I h
  refine PySem.W.methodCall_KW (pl := pl)
    (thn (he.run pins s σ H _ I h) fun u s1 ⟨y, H1, I1, ry, a, dx, fs, ey, ea, l, q⟩ => ?_) ht
  obtain rfl := ey
  have ru : u = Value.ref a := ry
  rw [ru]
  exact getmeth_ok I1 ea c hm l (PySem.W.callWith_K (first := [.ref a]) (h₀ := X.base)
    I.ok.mod.kin hm.kp (thn (ha.run pos pins s1 σ H1 _ I1 q) fun us s2 ⟨vs, H2, I2, r, q2⟩ =>
      ⟨I2.kIn, goesS (dvs := []) (ds := []) (us := .ref a :: us) (vs := .ref a :: vs) F hr hG hb .nil hx I2 (.cons rfl r) (by rw [List.append_nil]; exact q2)⟩) hst hpl)
theorem pe_cmE0 {pl : Sem Bool} (D : Cm X.prog X.w X.K X.mg X.base CX k C m ps sp) (hr : Room k X.A)
    (hG : Gd X.A) (he : PE X o ta) (hx : ∀ σ, PassesAt CX X σ (E σ))
    (ht : eval (.Call (.Attribute o m apos) [] [] pos) X.env = (do
      let ov ← eval o X.env
      standAt apos.atName
      let (g, first) ← holding [ov] (getMethod ov m pl)
      callWith pos g first (backTo pos (starEach [] X.env))
        (backToKw pos (keywordEach [] X.env))) := by rfl) :
    PE X (.Call (.Attribute o m apos) [] [] pos) (tMethE C m sp E ta tNil) := by
  obtain ⟨f, fd, c, hm, hb, F⟩ := D
  constructor
  intro pins s σ H Q I h
  refine PySem.W.methodCall_KW (pl := pl)
    (thn (he.run pins s σ H _ I h) fun u s1 ⟨y, H1, I1, ry, a, dx, fs, ey, ea, l, q⟩ => ?_) ht
  obtain rfl := ey
  have ru : u = Value.ref a := ry
  rw [ru]
  exact getmeth_ok I1 ea c hm l (PySem.W.callWith_K0 (first := [.ref a]) I1.kIn hm.kp
    (goesS (dvs := []) (ds := []) (us := [.ref a]) (vs := [.ref a]) F hr hG hb .nil hx I1 (.cons rfl .nil) q))
end
end Rm

set_option maxRecDepth 100000
set_option maxHeartbeats 4000000
namespace Rm
open PySem PySem.Spec L2
open PyProof.Rows hiding St
open SeqAt MeetsSeq

/-! ### a built-in value on the left declines an own instance on the right -/
section
variable {M : Model} {prog : Program} {w : World} {A : Around} {E : Value → Shared → Prop} {K : PySem.W.Frag} {x C : Addr} {ox : Obj} {od : Option Obj} {hp : Heap} {g : Array GenState} {d : Drawn} {tk : Nat} {os : OsState}
theorem look_in {T : String} (X : K.In hp) (I : PySem.W.InstAt hp x ox C od) (e : PySem.W.subIn K (.ref C) (.type T) = some false) :
    PySem.W.Looks M hp (isInstance (.ref x) (.type T)) false := I.type.andThen (PySem.W.looks_subIn X e)
theorem dec_int {dx : Addr} (X : K.In hp) (I : PySem.W.InstAt hp x (PySem.W.instObj C dx) C od) {a : Int} {t : Tok} {Q : Fin → Shared → Prop}
    (hq : Q (.done (.ret .notImplemented)) ⟨hp, g, d, tk, os⟩) : wpAny M A (Builtin.«int.__eq__» ⟨[.int a t, .ref x], []⟩) Q E ⟨hp, g, d, tk, os⟩ := by
  have hx := I.at_
  wp_walk using wpAny_load hx
  exact hq
theorem dec_bool {dx : Addr} (X : K.In hp) (I : PySem.W.InstAt hp x (PySem.W.instObj C dx) C od) {a : Bool} {Q : Fin → Shared → Prop}
    (hq : Q (.done (.ret .notImplemented)) ⟨hp, g, d, tk, os⟩) : wpAny M A (Builtin.«int.__eq__» ⟨[.bool a, .ref x], []⟩) Q E ⟨hp, g, d, tk, os⟩ := by
  have hx := I.at_
  wp_walk using wpAny_load hx
  exact hq
theorem dec_str {dx : Addr} (X : K.In hp) (I : PySem.W.InstAt hp x (PySem.W.instObj C dx) C od) {a : Str} {t : Tok} {Q : Fin → Shared → Prop}
    (hq : Q (.done (.ret .notImplemented)) ⟨hp, g, d, tk, os⟩) : wpAny M A (Builtin.«str.__eq__» ⟨[.str a t, .ref x], []⟩) Q E ⟨hp, g, d, tk, os⟩ := by
  have hx := I.at_
  wp_walk using wpAny_load hx
  exact hq
theorem dec_none {Q : Fin → Shared → Prop}
    (hq : Q (.done (.ret .notImplemented)) ⟨hp, g, d, tk, os⟩) : wpAny M A (Builtin.«NoneType.__eq__» ⟨[.none, .ref x], []⟩) Q E ⟨hp, g, d, tk, os⟩ := by
  wp_walk
  exact hq
theorem dec_list {dx l : Addr} (X : K.In hp) (I : PySem.W.InstAt hp x (PySem.W.instObj C dx) C od) (e : PySem.W.subIn K (.ref C) (.type "list") = some false)
    {Q : Fin → Shared → Prop}
    (hq : Q (.done (.ret .notImplemented)) ⟨hp, g, d, tk, os⟩) : wpAny M A (Builtin.«list.__eq__» ⟨[.ref l, .ref x], []⟩) Q E ⟨hp, g, d, tk, os⟩ := by
  have hL := look_in (M := M) X I e
  wp_walk using PySem.W.Looks.at hL
  exact hq
theorem dec_tuple {dx l : Addr} (X : K.In hp) (I : PySem.W.InstAt hp x (PySem.W.instObj C dx) C od) (e : PySem.W.subIn K (.ref C) (.type "tuple") = some false)
    {Q : Fin → Shared → Prop}
    (hq : Q (.done (.ret .notImplemented)) ⟨hp, g, d, tk, os⟩) : wpAny M A (Builtin.«tuple.__eq__» ⟨[.ref l, .ref x], []⟩) Q E ⟨hp, g, d, tk, os⟩ := by
  have hL := look_in (M := M) X I e
  wp_walk using PySem.W.Looks.at hL
  exact hq
theorem dec_dict {dx l : Addr} (X : K.In hp) (I : PySem.W.InstAt hp x (PySem.W.instObj C dx) C od) (e : PySem.W.subIn K (.ref C) (.type "dict") = some false)
    {Q : Fin → Shared → Prop}
    (hq : Q (.done (.ret .notImplemented)) ⟨hp, g, d, tk, os⟩) : wpAny M A (Builtin.«dict.__eq__» ⟨[.ref l, .ref x], []⟩) Q E ⟨hp, g, d, tk, os⟩ := by
  have hL := look_in (M := M) X I e
  wp_walk using PySem.W.Looks.at hL
  exact hq
end

/-- the class at C has an own __eq__ that keeps sp, and is none of the built-in ones -/
structure OwnE (P : Program) (w : World) (K : PySem.W.Frag) (mg : Str → Option Value) (base : Heap) (n : Nat) (C : Addr) (sp : Sp) : Prop where
  fn : ∃ f fd ps, PySem.W.findIn K (.ref C) "__eq__" = some (some (.ref f)) ∧ PySem.W.isFn K (.ref f) = true ∧
    Binds K fd ps [] ∧ FnG P w K mg base CX0 n f fd ps sp
  l : PySem.W.subIn K (.ref C) (.type "list") = some false
  t : PySem.W.subIn K (.ref C) (.type "tuple") = some false
  d : PySem.W.subIn K (.ref C) (.type "dict") = some false
  i : PySem.W.subIn K (.ref C) (.type "int") = some false
  b : PySem.W.subIn K (.ref C) (.type "bool") = some false
  s : PySem.W.subIn K (.ref C) (.type "str") = some false
  n : PySem.W.subIn K (.ref C) (.type "NoneType") = some false
def tyD : PyData → String
  | .none => "NoneType" | .bool _ => "bool" | .int _ => "int" | .str _ => "str" | .list _ => "list" | .tuple _ => "tuple" | .dict _ => "dict"
section
variable {X : Cx} {C : Addr} {n : Nat} {sp : Sp} {pins : List (Addr × Obj)} {σ : L2.St} {H : Hp} {s : Shared}
theorem OwnE.sub {P : Program} {w : World} {K : PySem.W.Frag} {mg : Str → Option Value} {base : Heap} (D : OwnE P w K mg base n C sp) :
    ∀ d : PyData, PySem.W.subIn K (.ref C) (.type (tyD d)) = some false
  | .none => D.n | .bool _ => D.b | .int _ => D.i | .str _ => D.s | .list _ => D.l | .tuple _ => D.t | .dict _ => D.d
theorem Dx.typ (I : Inv X pins σ H s) {v : V} {d : PyData} {u : Value} (h : Dx X.K H v d) (r : RelV v u) : s.TypeIs u (tyD d) := by
  cases h with
  | non => cases r; rfl
  | bl b => cases r; rfl
  | int i => obtain ⟨t, rfl⟩ := r; rfl
  | str x => obtain ⟨t, rfl⟩ := r; rfl
  | lst h _ =>
    cases r
    obtain ⟨its, rv, pl, hz⟩ := I.list h
    exact pl.isList.typeIs
  | tup h _ =>
    cases r
    obtain ⟨its, rv, ⟨o, h1, h2, _⟩, hz⟩ := I.tuple h
    exact ⟨o, h1, h2⟩
  | dic h _ =>
    cases r
    obtain ⟨_, _, vs, _, p⟩ := dk_rd I.hok h
    exact p.typeIs
theorem looks_ty {M : Model} {u : Value} {T : String} (t : s.TypeIs u T) : PySem.W.Looks M s.heap (typeOf u) (.type T) := by
  cases u with
  | ref a =>
    obtain ⟨o, ho, hc⟩ := t
    exact hc ▸ (PySem.W.Looks.ld ho).andThen .now
  | _ => exact PySem.W.Looks.of_pure t
/-- x == y, y an instance with its own ==, x of a built-in kind: y is asked -/
def rFlip (K : PySem.W.Frag) (C : Addr) (sp : Sp) : R2 := fun x y H Q => ∃ a dx fs d, y = .ref a ∧ H a = some (.ins C dx fs) ∧ Dx K H x d ∧
  sp [y, x] H (fun z H' => ∃ b, z = .bl b ∧ Q z H') E0
theorem op_flip (D : OwnE X.prog X.w X.K X.mg X.base n C sp) (hr : Room n X.A) (hG : Gd X.A) : OpR X (compareOp .Eq) (rFlip X.K C sp) := by
  intro pins s σ H x y v u Q I rx ry h
  obtain ⟨a, dx, fs, d, rfl, ha, hd, q⟩ := h
  cases ry
  obtain ⟨f, fd, ps, hs, hf, hb, F0⟩ := D.fn
  obtain ⟨mA, O, _⟩ := ins_get I.hok ha
  obtain ⟨od, J, _⟩ := O.look
  have tv := Dx.typ I hd rx
  have lv := looks_ty (M := model X.prog X.w) tv
  have dec : ∃ id, Slot (tyD d) "__eq__" id ∧ ∀ {Q' : Value → Shared → Prop}, Q' .notImplemented s →
      wpAny (model X.prog X.w) X.A (call (.builtin id) [v, .ref a]) Q' X.xe s := by
    obtain ⟨hp, g, dr, tk, os⟩ := s
    cases hd with
    | non => cases rx; exact ⟨_, F.slot_NoneType_eq, fun hq => wpAny_call_entry F.slot_NoneType_eq tv F.entry_NoneType_eq (dec_none ⟨_, rfl, hq⟩) (F.args_NoneType_eq_2 _ _)⟩
    | bl b => cases rx; exact ⟨_, F.slot_bool_eq, fun hq => wpAny_call_entry F.slot_bool_eq tv F.entry_int_eq (dec_bool I.kIn J ⟨_, rfl, hq⟩) (F.args_int_eq_2 _ _)⟩
    | int i => obtain ⟨t, rfl⟩ := rx; exact ⟨_, F.slot_int_eq, fun hq => wpAny_call_entry F.slot_int_eq tv F.entry_int_eq (dec_int I.kIn J ⟨_, rfl, hq⟩) (F.args_int_eq_2 _ _)⟩
    | str z => obtain ⟨t, rfl⟩ := rx; exact ⟨_, F.slot_str_eq, fun hq => wpAny_call_entry F.slot_str_eq tv F.entry_str_eq (dec_str I.kIn J ⟨_, rfl, hq⟩) (F.args_str_eq_2 _ _)⟩
    | lst hl _ =>
      cases rx
      obtain ⟨its, rv, ⟨o, n, ho, hc, _, hdt⟩, _⟩ := I.list hl
      exact ⟨_, F.slot_list_eq, fun hq => wpAny_call_entry F.slot_list_eq tv F.entry_list_eq (dec_list I.kIn J D.l ⟨_, rfl, hq⟩) (F.args_list_eq_2 _ _)⟩
    | tup hl _ => cases rx; exact ⟨_, F.slot_tuple_eq, fun hq => wpAny_call_entry F.slot_tuple_eq tv F.entry_tuple_eq (dec_tuple I.kIn J D.t ⟨_, rfl, hq⟩) (F.args_tuple_eq_2 _ _)⟩
    | dic hl _ => cases rx; exact ⟨_, F.slot_dict_eq, fun hq => wpAny_call_entry F.slot_dict_eq tv F.entry_dict_eq (dec_dict I.kIn J D.d ⟨_, rfl, hq⟩) (F.args_dict_eq_2 _ _)⟩
  obtain ⟨id, sl, dec⟩ := dec
  have two : wpAny (model X.prog X.w) X.A (tryCompare (.ref a) "__eq__" v) (fun r s' => ∃ b, r = some (.bool b) ∧ EP X pins σ Q (.bool b) s') X.xe s := by
    unfold tryCompare
    have hl : ([Value.ref a] ++ [v]).length = ps.length := by
      have := F0.len _ _ _ _ q
      exact this
    refine wpAny_bind (PySem.W.ifBound_K I.kIn J hs hf (wpAny_call (codeAny_mono (F0.run X.A X.stack s H ⟨[.ref a, v], []⟩ [.ref a, v] [.ref a, x] _ _ hr hG I.env0
      (by have := hb s [.ref a, v] I.kIn (by simpa using hl); simpa using this) (.cons rfl (.cons rx .nil)) q) fun rr s' hq => ?_)))
    match rr, hq with
    | .error er, hq => exact False.elim hq
    | .ok (.ret z), hq =>
      obtain ⟨y, H', I2, ry, ⟨b, ey, qq⟩⟩ := I.after hq
      subst ey
      cases ry
      exact wpAny_pure ⟨b, rfl, .bl b, H', I2, rfl, qq⟩
    | .ok .next, hq => exact False.elim hq
    | .ok .brk, hq => exact False.elim hq
    | .ok .cont, hq => exact False.elim hq
  show wpAny _ _ (richCompare .Eq v (.ref a)) _ _ _
  simp only [richCompare, cmpInfo_Eq, tv.oneThing_none]
  refine wpAny_holding (wpAny_bind (wpAny_cRoomFor hr.units0 ?_))
  refine wpAny_bind (lv.here (wpAny_bind (J.type.here ?_)))
  split
  · refine wpAny_bind ((PySem.W.looks_subIn I.kIn (D.sub d)).here ?_)
    simp only [Bool.false_eq_true, if_false, Bool.not_false, if_true]
    refine wpAny_bind (m := tryCompare v _ (.ref a)) (wpAny_tryCompare_declines tv sl (dec ⟨rfl, ?_⟩))
    refine wpAny_bind (m := tryCompare (.ref a) _ v) (thn two fun r s' z => ?_)
    obtain ⟨b, rfl, z⟩ := z
    exact wpAny_pure z
  · rename_i z
    exact absurd (by simp) z

/-- x == y, x an instance with its own ==, y of a built-in kind or of the same class -/
def rOwnL (K : PySem.W.Frag) (C : Addr) (sp : Sp) : R2 := fun x y H Q => ∃ a dx fs, x = .ref a ∧ H a = some (.ins C dx fs) ∧
  ((∃ d, Dx K H y d ∧ PySem.W.subIn K (.type (tyD d)) (.ref C) = some false) ∨ ∃ b dy gs, y = .ref b ∧ H b = some (.ins C dy gs)) ∧
  sp [x, y] H (fun z H' => ∃ b, z = .bl b ∧ Q z H') E0
theorem op_ownL (D : OwnE X.prog X.w X.K X.mg X.base n C sp) (hr : Room n X.A) (hG : Gd X.A) : OpR X (compareOp .Eq) (rOwnL X.K C sp) := by
  intro pins s σ H x y v u Q I rx ry h
  obtain ⟨a, dx, fs, rfl, ha, hy, q⟩ := h
  cases rx
  obtain ⟨f, fd, ps, hs, hf, hb, F0⟩ := D.fn
  obtain ⟨mA, O, _⟩ := ins_get I.hok ha
  obtain ⟨od, J, _⟩ := O.look
  obtain ⟨m, hF⟩ := I.fr
  have ty : ∃ tb, PySem.W.Looks (model X.prog X.w) s.heap (typeOf u) tb ∧ PySem.W.notFirst X.K C tb = true := by
    rcases hy with ⟨d, hd, e⟩ | ⟨b, dy, gs, rfl, hb'⟩
    · exact ⟨_, looks_ty (Dx.typ I hd ry), by unfold PySem.W.notFirst; rw [e]; simp⟩
    · cases ry
      obtain ⟨mB, O', _⟩ := ins_get I.hok hb'
      obtain ⟨od', J', _⟩ := O'.look
      exact ⟨_, J'.type, by simp [PySem.W.notFirst]⟩
  obtain ⟨tb, t1, t2⟩ := ty
  have hl : ([Value.ref a] ++ [u]).length = ps.length := F0.len _ _ _ _ q
  refine PySem.W.cmp_K (op := .Eq) (tb := tb) hr.units0 hF I.ok.mod.kin J t1 t2 hs hf ?_
  refine wpAny_call (codeAny_mono (F0.run X.A X.stack s H ⟨[.ref a, u], []⟩ [.ref a, u] [.ref a, y] _ _ hr hG I.env0
      (by have := hb s [.ref a, u] I.kIn (by simpa using hl); simpa using this) (.cons rfl (.cons ry .nil)) q) fun rr s' hq => ?_)
  match rr, hq with
  | .error er, hq => exact False.elim hq
  | .ok (.ret z), hq =>
    obtain ⟨y, H', I2, ry, ⟨b, ey, qq⟩⟩ := I.after hq
    subst ey
    cases ry
    exact ⟨.bl b, H', I2, rfl, qq⟩
  | .ok .next, hq => exact False.elim hq
  | .ok .brk, hq => exact False.elim hq
  | .ok .cont, hq => exact False.elim hq
end
end Rm

set_option maxRecDepth 100000
set_option maxHeartbeats 4000000
namespace Rm
open PySem PySem.Spec L2
open PyProof.Rows hiding St

theorem Dx.tyx {K : PySem.W.Frag} {H : Hp} {v : V} {d : PyData} (h : Dx K H v d) : TyX K H v (.type (tyD d)) := by
  cases h with
  | non => exact .base .non
  | bl b => exact .base (.bl b)
  | int i => exact .base (.int i)
  | str x => exact .base (.str x)
  | lst h _ =>
    rcases h with (h | ⟨o, h⟩) | ⟨o, its, n, h, c, _⟩
    · exact .base (.lst h)
    · exact .base (.frz h)
    · exact .kList h c
  | tup h _ =>
    rcases h with (h | ⟨o, h⟩) | ⟨o, its, n, h, c, _⟩
    · exact .base (.tup h)
    · exact .fTuple h
    · exact .kTuple h c
  | dic h _ =>
    rcases h with h | ⟨o, h⟩
    · exact .base (.dK h)
    · exact .fDict h
def isS : PyData → Bool
  | .str _ => true
  | _ => false
theorem kit_str {K : PySem.W.Frag} : ∀ d : PyData, PySem.W.kitOne K (.type (tyD d)) (.type "str") = some (isS d)
  | .none => kit_ty (a := "NoneType") (r := false) (by decide +kernel) | .bool _ => kit_ty (a := "bool") (r := false) (by decide +kernel)
  | .int _ => kit_ty (a := "int") (r := false) (by decide +kernel) | .str _ => kit_ty (a := "str") (r := true) (by decide +kernel)
  | .list _ => kit_ty (a := "list") (r := false) (by decide +kernel) | .tuple _ => kit_ty (a := "tuple") (r := false) (by decide +kernel)
  | .dict _ => kit_ty (a := "dict") (r := false) (by decide +kernel)
/-- isinstance(x, str) for data -/
theorem isi_str {K : PySem.W.Frag} {H : Hp} {v : V} {d : PyData} {Q : VK} (h : Dx K H v d) (q : Q (.bl (isS d)) H) :
    rIsi K [v, .ty "str"] H Q := ⟨v, .ty "str", _, _, _, rfl, .ty _, h.tyx, kit_str d, q⟩

/-! ### the four words -/
def rkS (z : Str) : Option Int :=
  if z = "hold" then some 1 else if z = "keep" then some 2 else if z = "change" then some 3 else if z = "replace" then some 4 else none
def rkD : PyData → Option Int
  | .str z => rkS z
  | _ => none
structure Rk (w : World) (K : PySem.W.Frag) (mg : Str → Option Value) (R : Addr) : Prop where
  g : mg "RANKS" = some (.ref R)
  kd : ∃ es n, KDict K w R es n
  yes : ∀ z i, rkS z = some i → ∃ t, PySem.W.nsIn K R z = some (some (.int i t))
  no : ∀ z, rkS z = none → PySem.W.nsIn K R z = some none
theorem rk_of {w : World} {K : PySem.W.Frag} {mg : Str → Option Value} {R : Addr} {t1 t2 t3 t4 u1 u2 u3 u4 : Tok} {n : Nat}
    (g : mg "RANKS" = some (.ref R)) (low : (R == sysModules) = false)
    (h : K.lookup R = some ⟨.type "dict", none, .dict #[⟨PyData.keyHash w.params "hold", .str "hold" t1, .int 1 u1⟩,
      ⟨PyData.keyHash w.params "keep", .str "keep" t2, .int 2 u2⟩, ⟨PyData.keyHash w.params "change", .str "change" t3, .int 3 u3⟩,
      ⟨PyData.keyHash w.params "replace", .str "replace" t4, .int 4 u4⟩] n, #[]⟩) : Rk w K mg R := by
  refine ⟨g, ⟨_, _, h, ⟨⟨_, _, rfl, rfl⟩, ⟨_, _, rfl, rfl⟩, ⟨_, _, rfl, rfl⟩, ⟨_, _, rfl, rfl⟩, True.intro⟩, low⟩, fun z i e => ?_, fun z e => ?_⟩
  · unfold rkS at e
    unfold PySem.W.nsIn
    rw [h]
    simp only [List.find?_cons, Value.isStr, List.find?_nil]
    split at e
    · rename_i q; subst q; cases e; exact ⟨u1, by simp⟩
    split at e
    · rename_i q0 q; subst q; cases e; exact ⟨u2, by simp [show (("hold" : Str) == "keep") = false by decide +kernel]⟩
    split at e
    · rename_i q0 q1 q; subst q; cases e; exact ⟨u3, by simp [show (("hold" : Str) == "change") = false by decide +kernel, show (("keep" : Str) == "change") = false by decide +kernel]⟩
    split at e
    · rename_i q0 q1 q2 q; subst q; cases e; exact ⟨u4, by simp [show (("hold" : Str) == "replace") = false by decide +kernel, show (("keep" : Str) == "replace") = false by decide +kernel, show (("change" : Str) == "replace") = false by decide +kernel]⟩
    · cases e
  · unfold rkS at e
    unfold PySem.W.nsIn
    rw [h]
    simp only [List.find?_cons, Value.isStr, List.find?_nil]
    split at e
    · cases e
    split at e
    · cases e
    split at e
    · cases e
    split at e
    · cases e
    rename_i q0 q1 q2 q3
    have f : ∀ {a b : Str}, ¬ a = b → (a == b) = false := fun h => by simpa using h
    simp [f q0, f q1, f q2, f q3, f (fun e => q0 e.symm), f (fun e => q1 e.symm), f (fun e => q2 e.symm), f (fun e => q3 e.symm), DictEntry.refKey]

/-! ### a class of the program -/
def allTy (l : List Value) : Bool := l.all fun v => match v with
  | .type _ => true
  | _ => false
theorem allTy_no {C : Addr} : ∀ {l : List Value}, allTy l = true → l.contains (.ref C) = false
  | [], _ => rfl
  | v :: r, h => by
    unfold allTy at h
    rw [List.all_cons, Bool.and_eq_true] at h
    rw [List.contains_cons, allTy_no (l := r) h.2]
    cases v with
    | type _ => rfl
    | _ => exact absurd h.1 (by simp)
theorem sub_own {K : PySem.W.Frag} {C : Addr} {T : String} (h : (fastBuiltinMro T).map allTy = some true) : PySem.W.subIn K (.type T) (.ref C) = some false := by
  unfold PySem.W.subIn
  dsimp only
  obtain ⟨l, e, q⟩ := Option.map_eq_some_iff.mp h
  rw [e]
  exact congrArg some (allTy_no q)
theorem sub_ownD {K : PySem.W.Frag} {C : Addr} : ∀ d : PyData, PySem.W.subIn K (.type (tyD d)) (.ref C) = some false
  | .none => sub_own (T := "NoneType") (by decide +kernel) | .bool _ => sub_own (T := "bool") (by decide +kernel)
  | .int _ => sub_own (T := "int") (by decide +kernel) | .str _ => sub_own (T := "str") (by decide +kernel)
  | .list _ => sub_own (T := "list") (by decide +kernel) | .tuple _ => sub_own (T := "tuple") (by decide +kernel)
  | .dict _ => sub_own (T := "dict") (by decide +kernel)
structure OwnC (K : PySem.W.Frag) (C : Addr) : Prop where
  cls : Cls K C
  ty : PySem.W.typeIn K (.ref C) = some (.type "type")
  ha : PySem.W.findIn K (.ref C) "__class__" = some (some (.builtin "object.__class__"))
  hn : PySem.W.specialIn K (.builtin "object.__class__") "__get__" = some (some (.builtin "getset_descriptor.__get__"))
  htk : PySem.W.takesIn K (.builtin "object.__class__") = some true
  hm : PySem.W.mroIn K C (.type "object") = some true
section
variable {K : PySem.W.Frag} {H : Hp} {C a b dx dy : Addr} {fs gs : List (Str × V)} {x v : V} {d : PyData} {Q : VK}
theorem OwnC.isi_not (c : OwnC K C) (h : Dx K H v d) (q : Q (.bl false) H) : rIsi K [v, .ref C] H Q := by
  refine ⟨v, .ref C, _, _, false, rfl, .own C, h.tyx, ?_, q⟩
  unfold PySem.W.kitOne
  rw [if_neg (by simp)]
  unfold PySem.W.kitCls
  have e : (PySem.W.clsIn K C).isSome = true := by
    obtain ⟨cd, z, _⟩ := PySem.W.any_some c.cls.hd
    rw [z]; rfl
  dsimp only
  rw [if_pos (by rw [e, c.ty]; simp)]
  exact sub_ownD d
theorem OwnC.isi_so (c : OwnC K C) (h : H b = some (.ins C dy gs)) (q : Q (.bl true) H) : rIsi K [.ref b, .ref C] H Q := by
  refine ⟨.ref b, .ref C, _, _, true, rfl, .own C, .base (.ins h c.cls c.ha c.hn c.htk c.hm), ?_, q⟩
  unfold PySem.W.kitOne
  rw [if_pos (by simp)]
end

/-! ### what the modes' defs keep -/
def mdO (C dx : Addr) (z : Str) : HO := .ins C dx [("_word", .str z)]
def spIs (K : PySem.W.Frag) : Sp := fun vs H Q _ => ∃ x d, vs = [x] ∧ Dx K H x d ∧ Q (.bl (rkD d).isSome) H
def spRank : Sp := fun vs H Q _ => ∃ z i, vs = [.str z] ∧ rkS z = some i ∧ Q (.int i) H
/-- a mode is made of any value -/
def spModeX (K : PySem.W.Frag) (C BM : Addr) : Sp := fun vs H Q E => ∃ a dx x d, vs = [.ref a, x] ∧ H a = some (.ins C dx []) ∧ Dx K H x d ∧
  (rkD d = none → ∀ e, H e = none → E (.ref BM) (some e) (upd H e (.xd [("value", x)]))) ∧
  (∀ z i, d = .str z → rkS z = some i → Q .non (upd H a (mdO C dx z)))
/-- a mode is made of one of the words -/
def spModeQ (K : PySem.W.Frag) (C : Addr) : Sp := fun vs H Q _ => ∃ a dx z i, vs = [.ref a, .str z] ∧ H a = some (.ins C dx []) ∧ rkS z = some i ∧
  Q .non (upd H a (mdO C dx z))
def spWord (C : Addr) : Sp := fun vs H Q _ => ∃ a dx z, vs = [.ref a] ∧ H a = some (mdO C dx z) ∧ Q (.str z) H
def spRk (C : Addr) : Sp := fun vs H Q _ => ∃ a dx z i, vs = [.ref a] ∧ H a = some (mdO C dx z) ∧ rkS z = some i ∧ Q (.int i) H
def spEqM (K : PySem.W.Frag) (C : Addr) : Sp := fun vs H Q _ => ∃ a dx z y, vs = [.ref a, y] ∧ H a = some (mdO C dx z) ∧
  ((∃ d, Dx K H y d ∧ Q (.bl false) H) ∨ ∃ b dy z', y = .ref b ∧ H b = some (mdO C dy z') ∧ Q (.bl (decide (z = z'))) H)

/-! ### values that are small -/
structure Sv (d : PyData) : Prop where
  sh : d.showable = true
  lv : d.leavesShort 100 = true
  wt : d.weight ≤ 1000
  dp : d.depth ≤ 10
theorem Sv.sm {d : PyData} (h : Sv d) : Sm d := ⟨h.sh, h.lv, by have := h.wt; omega, by have := h.dp; omega⟩
def svB (d : PyData) : Bool := d.showable && (d.leavesShort 100 && (decide (d.weight ≤ 1000) && decide (d.depth ≤ 10)))
theorem Sv.of {d : PyData} (h : svB d = true) : Sv d := by
  unfold svB at h
  simp only [Bool.and_eq_true, decide_eq_true_eq] at h
  exact ⟨h.1, h.2.1, h.2.2.1, h.2.2.2⟩
theorem Sv.all {ds : List PyData} (h : ds.all svB = true) {i : Nat} {d : PyData} (e : ds[i]? = some d) : Sv d :=
  Sv.of (List.all_eq_true.mp h d (List.mem_of_getElem? e))
/-! ### drawn values -/
/-- all but the tape at t is as it was -/
structure Nxt (t : Addr) (H H' : Hp) : Prop where
  keep : ∀ b u, H b = some u → b ≠ t → H' b = some u
  tape : ∃ o, H' t = some o ∧ IsTape o
def spAny (K : PySem.W.Frag) : Sp := fun vs H Q _ => ∃ t o, vs = [.ref t] ∧ H t = some o ∧ IsTape o ∧
  ∀ v d H', Dx K (del H' t) v d → Sv d → Nxt t H H' → Q v H'
theorem del_upd {H : Hp} {t : Addr} {o : HO} : del (upd H t o) t = del H t := by
  funext b
  by_cases h : b = t
  · rw [h, del_same, del_same]
  · rw [del_ne h, del_ne h, upd_ne h]
/-- a new thing beside the tape -/
structure New (t p : Addr) (o ot : HO) (H : Hp) : Prop where
  th : upd H p o t = some ot
  s : Same H (upd H p o)
  d : Same (del H t) (del (upd H p o) t)
  a : del (upd H p o) t p = some o
theorem new_at {t p : Addr} {H : Hp} (o : HO) {ot : HO} (hp : H p = none) (ht : H t = some ot) : New t p o ot H := by
  have ne : p ≠ t := fun e => by rw [e, ht] at hp; cases hp
  have nb : ∀ {b : Addr} {u : HO}, H b = some u → b ≠ p := fun h e => by rw [e, hp] at h; cases h
  refine ⟨by rw [upd_ne (Ne.symm ne)]; exact ht, fun b u h => by rw [upd_ne (nb h)]; exact h, fun b u h => ?_, by rw [del_ne ne, upd_same]⟩
  by_cases e : b = t
  · rw [e, del_same] at h; cases h
  · rw [del_ne e] at h ⊢
    rw [upd_ne (nb h)]
    exact h
theorem Sm.of {d : PyData} (h : (d.showable && (d.leavesShort 100 && (decide (d.weight ≤ 100000) && decide (d.depth ≤ 50)))) = true) : Sm d := by
  simp only [Bool.and_eq_true, decide_eq_true_eq] at h
  exact ⟨h.1, h.2.1, h.2.2.1, h.2.2.2⟩
/-- what _law_made tells of a value -/
def madeD (d : PyData) : PyData := match rkD d with
  | some i => .list [.str "made", d, .int i]
  | none => .list [.str "bad", d]
def spMade (K : PySem.W.Frag) : Sp := fun vs H Q _ => ∃ x d, vs = [x] ∧ Dx K H x d ∧
  ∀ v H', Same H H' → Dx K H' v (madeD d) → Q v H'
theorem same_new {H : Hp} {p : Addr} {o : HO} (n : H p = none) : Same H (upd H p o) := fun b u h => by
  rw [upd_ne (fun e => by rw [e, n] at h; cases h)]
  exact h
end Rm

set_option maxRecDepth 100000
set_option maxHeartbeats 4000000
namespace Rm
open PySem PySem.Spec L2
open PyProof.Rows hiding St
open SeqAt MeetsSeq

/-! ### != of two instances of a class with its own == -/
section
variable {M : Model} {A : Around} {E : Value → Shared → Prop} {s : Shared} {K : PySem.W.Frag} {x C : Addr} {ox : Obj} {od : Option Obj}
theorem bound_ne {args : List Value} {Q : Option Value → Shared → Prop} (X : K.In s.heap) (I : PySem.W.InstAt s.heap x ox C od)
    (hs : PySem.W.findIn K (.ref C) "__ne__" = some (some (.builtin "object.__ne__")))
    (h : wpAny M A (call (.builtin "object.__ne__") (.ref x :: args)) (fun v => Q (some v)) E s) : wpAny M A (callSpecialIfBound? (.ref x) "__ne__" args) Q E s := by
  simp only [callSpecialIfBound?, bindSpecialIfBound?]
  refine wpAny_holding (wpAny_bind (wpAny_bind (wpAny_bind (I.type.here ((PySem.W.looks_findIn X hs).here ?_)))))
  refine wpAny_bind (wpAny_askSetting (wpAny_ite ?_))
  have fin : wpAny M A (call (.builtin "object.__ne__") ([.ref x] ++ args) >>= fun v => pure (some v)) Q E s :=
    wpAny_bind (wpAny_mono h (fun v s' h' => wpAny_pure h') fun _ _ h' => h')
  split
  · exact wpAny_bind (wpAny_of_eq (F.cmp_object.ne.bind _) (wpAny_pure (by exact fin)))
  · exact wpAny_tryCatch (wpAny_bind (wpAny_of_eq (F.cmp_object.ne.bind _) (wpAny_pure (by exact fin))))
theorem entry_ne {y : Value} {Q : Fin → Shared → Prop} (hu : A.units < cLine)
    (h : wpAny M A (callSpecialIfBound? (.ref x) "__eq__" [y]) (fun r s' => ∃ b, r = some (.bool b) ∧ Q (.done (.ret (.bool (!b)))) s') E s) :
    wpAny M A (Builtin.«object.__ne__» ⟨[.ref x, y], []⟩) Q E s := by
  unfold Builtin.«object.__ne__»
  repeat (first
    | with_reducible refine wpAny_cRoomFor hu ?_
    | (refine wpAny_bind (m := callSpecialIfBound? (.ref x) (Str.ofString "__eq__") [y]) (wpAny_mono h (fun r s' hr => by
          obtain ⟨b, rfl, hq⟩ := hr
          repeat (first | exact hq | exact wpAny_pure hq | exact wpAny_truthy_bool hq | (refine wpAny_bind (m := truthy (.bool _)) (wpAny_truthy_bool ?_)) | wp_step)) fun _ _ e => e))
    | wp_step)
end
def rOwnNe (C : Addr) (sp : Sp) : R2 := fun x y H Q => ∃ a dx fs b dy gs, x = .ref a ∧ H a = some (.ins C dx fs) ∧ y = .ref b ∧ H b = some (.ins C dy gs) ∧
  sp [x, y] H (fun z H' => ∃ c, z = .bl c ∧ Q (.bl (!c)) H') E0
section
variable {X : Cx} {C : Addr} {n : Nat} {sp : Sp}
theorem op_ownNe (D : OwnE X.prog X.w X.K X.mg X.base n C sp) (hm : PySem.W.mroIn X.K C (.type "object") = some true)
    (hne : PySem.W.findIn X.K (.ref C) "__ne__" = some (some (.builtin "object.__ne__"))) (hr : Room (n + 1) X.A) (hG : Gd X.A)
    (h1 : X.A.units + 1 < cLine) : OpR X (compareOp .NotEq) (rOwnNe C sp) := by
  intro pins s σ H x y v u Q I rx ry h
  obtain ⟨a, dx, fs, b, dy, gs, rfl, ha, rfl, hb', q⟩ := h
  cases rx
  cases ry
  obtain ⟨f, fd, ps, hs, hf, hb, F0⟩ := D.fn
  obtain ⟨mA, O, _⟩ := ins_get I.hok ha
  obtain ⟨od, J, _⟩ := O.look
  obtain ⟨mB, O', _⟩ := ins_get I.hok hb'
  obtain ⟨od', J', _⟩ := O'.look
  have hl : ([Value.ref a] ++ [Value.ref b]).length = ps.length := F0.len _ _ _ _ q
  have two : wpAny (model X.prog X.w) X.A (tryCompare (.ref a) "__ne__" (.ref b)) (fun r s' => ∃ c, r = some (.bool c) ∧ EP X pins σ Q (.bool c) s') X.xe s := by
    unfold tryCompare
    refine wpAny_bind (bound_ne I.kIn J hne (wpAny_call (codeAny_call_builtin F.cmp_object.ne.plain F.cmpEntry_ne
      (PySem.W.check_slot F.cmpKind_ne F.cmpSplit_ne (J.type.andThen (PySem.W.looks_mroIn I.kIn hm)) (F.cmpArgs_ne _ _) ?_))))
    refine entry_ne (A := X.A.in1) h1 (PySem.W.ifBound_K I.kIn J hs hf (wpAny_call (codeAny_mono (F0.run X.A.in1 X.stack s H ⟨[.ref a, .ref b], []⟩ [.ref a, .ref b] [.ref a, .ref b] _ _ hr.in1 hG.in1 I.env0.in1
      (by have := hb s [.ref a, .ref b] I.kIn (by simpa using hl); simpa using this) (.cons rfl (.cons rfl .nil)) q) fun rr s' hq => ?_)))
    match rr, hq with
    | .error er, hq => exact False.elim hq
    | .ok (.ret z), hq =>
      obtain ⟨y, H', I2, ry, ⟨c, ey, qq⟩⟩ := I.after hq
      subst ey
      cases ry
      have fin : ∃ c', some (Value.bool !c) = some (.bool c') ∧ EP X pins σ Q (.bool c') s' := ⟨_, rfl, .bl (!c), H', I2, rfl, qq⟩
      first | exact ⟨c, rfl, wpAny_pure fin⟩ | exact ⟨c, rfl, _, rfl, wpAny_pure fin⟩ | exact ⟨c, rfl, rfl, wpAny_pure fin⟩ | exact ⟨c, rfl, wpAny_pure (wpAny_pure fin)⟩
    | .ok .next, hq => exact False.elim hq
    | .ok .brk, hq => exact False.elim hq
    | .ok .cont, hq => exact False.elim hq
  show wpAny _ _ (richCompare .NotEq (.ref a) (.ref b)) _ _ _
  simp only [richCompare, cmpInfo_NotEq, oneThing_ref]
  refine wpAny_holding (wpAny_bind (wpAny_cRoomFor hr.units0 ?_))
  refine wpAny_bind (J.type.here (wpAny_bind (J'.type.here ?_)))
  rw [show (Value.ref C != Value.ref C) = false from by simp]
  simp only [Bool.false_eq_true, if_false]
  refine wpAny_bind (wpAny_pure ?_)
  simp only [Bool.false_eq_true, if_false]
  refine wpAny_bind (thn two fun r s' z => ?_)
  obtain ⟨c, rfl, z⟩ := z
  exact wpAny_pure z
end

/-- the law's own promise: a script of at most 63 numbers -/
def spLaw (K : PySem.W.Frag) : Sp := fun vs H Q _ => ∃ (a : Addr) (ns : List Int), vs = [.ref a] ∧ SqL K H a (ns.map V.int) ∧ ns.length ≤ 63 ∧
  (∀ n ∈ ns, Builtin.Int.intBits n ≤ 1048576) ∧ ∀ H', Q (.bl true) H'
end Rm

set_option maxRecDepth 100000
set_option maxHeartbeats 4000000
namespace Rm
open PySem PySem.Spec L2
open PyProof.Rows hiding St

/-! ### blocks with a middle -/
theorem seq_mid {A B : TS} {D : Ends} {σ : L2.St} {H : Hp} (Mid : L2.St → Hp → Prop) (h2 : ∀ σ' H', Mid σ' H' → B D σ' H')
    (h1 : ∀ N : L2.St → Hp → Prop, (∀ σ' H', Mid σ' H' → N σ' H') → A { D with nx := N } σ H) : tSeq A B D σ H := h1 (B D) h2
theorem asg_mid {A B : TS} {D : Ends} {σ : L2.St} {H : Hp} {i : Nat} {v : V} (Mid : L2.St → Hp → Prop) (h2 : ∀ σ' H', Mid σ' H' → B D σ' H')
    (h1 : ∀ N : L2.St → Hp → Prop, (∀ σ' H', Mid σ' H' → N σ' H') → A { D with nx := N } (σ.set i (some v)) H) : gName i v σ H (tSeq A B D) := h1 (B D) h2
/-- a walk through the keys of a locked dict -/
theorem for_keys {d : Addr} {o : Obj} {kvs : List (Key × V)} {g : TG} {tb : TS} {D : Ends} {σ : L2.St} {H : Hp} (Pv : Nat → L2.St → Hp → Prop)
    (h0 : Pv 0 σ H) (hl : ∀ i σ H, i ≤ kvs.length → Pv i σ H → H d = some (.frz o (.dK kvs)))
    (hs : ∀ i k v σ H, kvs[i]? = some (k, v) → Pv i σ H → g (kV k) σ H fun σ2 H2 => tb { D with nx := Pv (i + 1), ct := Pv (i + 1), bk := D.nx } σ2 H2)
    (hd : ∀ σ H, Pv kvs.length σ H → D.nx σ H) :
    ∃ W : Nat → Nat → L2.St → Hp → Prop, (∃ m, W 0 m σ H) ∧ ∀ i m σ H, W i m σ H →
      ((Itk d o kvs).stop i H ∧ D.nx σ H) ∨ ((Itk d o kvs).go i H ∧ ∃ N : L2.St → Hp → Prop, (∀ σ' H', N σ' H' → ∃ m', m' < m ∧ W (i + 1) m' σ' H') ∧
        ∀ x H', (Itk d o kvs).yld i H x H' → g x σ H' fun σ2 H2 => tb { D with nx := N, ct := N, bk := D.nx } σ2 H2) := by
  refine ⟨fun i m σ H => m = kvs.length - i ∧ i ≤ kvs.length ∧ Pv i σ H, ⟨kvs.length, by simp, Nat.zero_le _, h0⟩, ?_⟩
  rintro i m σ H ⟨rfl, hi, p⟩
  have q := hl i σ H hi p
  by_cases hlt : i < kvs.length
  · refine .inr ⟨⟨q, hlt⟩, Pv (i + 1), fun σ' H' p' => ⟨kvs.length - (i + 1), by omega, rfl, hlt, p'⟩, fun x H' y => ?_⟩
    obtain ⟨rfl, k, v, e, rfl⟩ := y
    exact hs i k v σ _ e p
  · have e : i = kvs.length := by omega
    subst e
    exact .inl ⟨⟨q, Nat.le_refl _⟩, hd σ H p⟩

/-! ### heaps beside the tape -/
theorem same_del {H : Hp} {t : Addr} : Same (del H t) H := fun b u h => by
  by_cases e : b = t
  · rw [e, del_same] at h; cases h
  · rw [del_ne e] at h; exact h
theorem same_dels {H H' : Hp} {t : Addr} (s : Same H H') : Same (del H t) (del H' t) := fun b u h => by
  by_cases e : b = t
  · rw [e, del_same] at h; cases h
  · rw [del_ne e] at h ⊢
    exact s b u h
theorem Nxt.same {t : Addr} {H0 H H' : Hp} (n : Nxt t H H') (f : H0 t = none) (s : Same H0 H) : Same H0 H' := fun b u h =>
  n.keep b u (s b u h) fun e => by rw [e, f] at h; cases h
theorem same_tape {t : Addr} {H0 H : Hp} {o : HO} (f : H0 t = none) (s : Same H0 H) : Same H0 (upd H t o) := fun b u h => by
  rw [upd_ne (fun e => by rw [e, f] at h; cases h)]
  exact s b u h
theorem same_two {H : Hp} {x dx : Addr} {o o' : HO} (nd : H dx = none) (nx : H x = none) (ne : dx ≠ x) : Same H (upd (upd H dx o) x o') :=
  (same_new nd).trans (same_new (by rw [upd_ne (Ne.symm ne)]; exact nx))

/-! ### the ranks as the law has them -/
def rkKV : List (Key × V) := [(.inr "hold", .int 1), (.inr "keep", .int 2), (.inr "change", .int 3), (.inr "replace", .int 4)]
theorem mergeK_rk : mergeK [] [((.inr "hold" : Key), V.int 1), (.inr "keep", .int 2), (.inr "change", .int 3), (.inr "replace", .int 4)] = rkKV := by
  simp [mergeK, putK, rkKV, show ¬ (("hold" : Str) = "keep") by decide +kernel, show ¬ (("hold" : Str) = "change") by decide +kernel, show ¬ (("keep" : Str) = "change") by decide +kernel,
    show ¬ (("hold" : Str) = "replace") by decide +kernel, show ¬ (("keep" : Str) = "replace") by decide +kernel, show ¬ (("change" : Str) = "replace") by decide +kernel]
theorem valV_rk (z : Str) : valV rkKV (.inr z) = (rkS z).map V.int := by
  unfold rkKV rkS
  have f : ∀ {a : Str}, ¬ z = a → ¬ ((Sum.inr a : Key) = Sum.inr z) := fun h e => h (Sum.inr.inj e).symm
  by_cases h1 : z = "hold"
  · subst h1; rw [valV_pos rfl, if_pos rfl]; rfl
  rw [valV_neg (f h1), if_neg h1]
  by_cases h2 : z = "keep"
  · subst h2; rw [valV_pos rfl, if_pos rfl]; rfl
  rw [valV_neg (f h2), if_neg h2]
  by_cases h3 : z = "change"
  · subst h3; rw [valV_pos rfl, if_pos rfl]; rfl
  rw [valV_neg (f h3), if_neg h3]
  by_cases h4 : z = "replace"
  · subst h4; rw [valV_pos rfl, if_pos rfl]; rfl
  rw [valV_neg (f h4), if_neg h4, valV_nil]
  rfl
theorem rk_key {i : Nat} {k : Key} {v : V} (h : rkKV[i]? = some (k, v)) : ∃ z n, k = .inr z ∧ rkS z = some n := by
  match i, h with
  | 0, h => cases h; exact ⟨_, 1, rfl, rfl⟩
  | 1, h => cases h; exact ⟨_, 2, rfl, rfl⟩
  | 2, h => cases h; exact ⟨_, 3, rfl, rfl⟩
  | 3, h => cases h; exact ⟨_, 4, rfl, rfl⟩
  | n + 4, h => cases h
theorem tape_rk {o : HO} (h : IsTape o) : o ≠ .dK rkKV := by
  obtain ⟨dg, mx, rfl, _⟩ := h
  intro e
  have e1 := congrArg (fun u : HO => match u with | .dK l => l.length | _ => 0) e
  simp [tapeO, rkKV] at e1

/-! ### values that are small -/
theorem rk_word {d : PyData} {i : Int} (h : rkD d = some i) : (d, i) = (.str "hold", 1) ∨ (d, i) = (.str "keep", 2) ∨ (d, i) = (.str "change", 3) ∨ (d, i) = (.str "replace", 4) := by
  cases d with
  | str z =>
    have h : rkS z = some i := h
    unfold rkS at h
    split at h
    · rename_i e; subst e; cases h; exact .inl rfl
    split at h
    · rename_i e; subst e; cases h; exact .inr (.inl rfl)
    split at h
    · rename_i e; subst e; cases h; exact .inr (.inr (.inl rfl))
    split at h
    · rename_i e; subst e; cases h; exact .inr (.inr (.inr rfl))
    · cases h
  | _ => cases h
theorem Sv.made {d : PyData} (h : Sv d) : Sm (madeD d) := by
  unfold madeD
  cases e : rkD d with
  | some i =>
    rcases rk_word e with q | q | q | q <;> (cases q; exact Sm.of (by decide +kernel))
  | none =>
    obtain ⟨h1, h2, h3, h4⟩ := h
    have w3 : (PyData.str "bad").weight = 3 := by decide +kernel
    have d3 : (PyData.str "bad").depth = 0 := by decide +kernel
    have l3 : (PyData.str "bad").leavesShort 100 = true := by decide +kernel
    have s3 : (PyData.str "bad").showable = true := by decide +kernel
    refine ⟨by simp [PyData.showable, PyData.showableAll, h1], by simp [PyData.leavesShort, PyData.leavesShortAll, h2] at l3 ⊢; exact l3, ?_, ?_⟩
    · simp only [PyData.weight, PyData.weightAll] at w3 ⊢
      omega
    · simp only [PyData.depth, PyData.depthAll]
      omega

/-! ### texts cut and put together -/
def smC (z : Str) : Bool := z.cps.toList.all fun c => decide (c < 16 ^ 8)
theorem smC_cut {z : Str} {lo hi : Option Int} (h : smC z = true) : smC (cutS z lo hi) = true := by
  unfold smC at h ⊢
  rw [List.all_eq_true] at h ⊢
  intro c hc
  unfold cutS at hc
  simp only at hc
  exact h c (List.mem_of_mem_drop (List.mem_of_mem_take hc))
theorem smC_app {x y : Str} (h : smC x = true) (h' : smC y = true) : smC (x ++ y) = true := by
  unfold smC at h h' ⊢
  have e : (x ++ y).cps.toList = x.cps.toList ++ y.cps.toList := by
    show (x.cps ++ y.cps).toList = _
    simp
  rw [e, List.all_append, h, h']
  rfl
theorem len_app (x y : Str) : (x ++ y).length = x.length + y.length := by
  show (x.cps ++ y.cps).size = _
  simp [Str.length]
theorem Sv.str {z : Str} (h : smC z = true) (hl : z.length ≤ 1000) : Sv (.str z) :=
  ⟨by simp [PyData.showable], by simp only [PyData.leavesShort]; exact h, by simp only [PyData.weight]; exact hl, by simp [PyData.depth]⟩
theorem rk_str {i : Nat} {v : V} (h : (rkKV.map fun kv => kV kv.1)[i]? = some v) : ∃ z n, v = .str z ∧ rkS z = some n := by
  rw [List.getElem?_map] at h
  cases e : rkKV[i]? with
  | none => rw [e] at h; cases h
  | some p =>
    obtain ⟨k, x⟩ := p
    rw [e] at h
    obtain ⟨z, n, rfl, hz⟩ := rk_key e
    cases h
    exact ⟨z, n, rfl, hz⟩
theorem rk_len {z : Str} {n : Int} (h : rkS z = some n) : z.length ≤ 7 ∧ smC z = true := by
  rcases rk_word (d := .str z) h with q | q | q | q <;> (cases q; exact ⟨by decide +kernel, by decide +kernel⟩)
theorem sign_str {i : Nat} {v : V} (h : [V.str "", V.str " ", V.str "e", V.str "H"][i]? = some v) : ∃ z, v = .str z ∧ z.length ≤ 1 ∧ smC z = true := by
  match i, h with
  | 0, h => cases h; exact ⟨_, rfl, by decide +kernel, by decide +kernel⟩
  | 1, h => cases h; exact ⟨_, rfl, by decide +kernel, by decide +kernel⟩
  | 2, h => cases h; exact ⟨_, rfl, by decide +kernel, by decide +kernel⟩
  | 3, h => cases h; exact ⟨_, rfl, by decide +kernel, by decide +kernel⟩
  | n + 4, h => cases h

/-! ### two modes made and compared -/
section
variable {K : PySem.W.Frag} {CM : Addr} {σ : L2.St} {H : Hp} {z z' : Str} {n n' : Int} {i j : Nat} {Q : Bool → Hp → Prop}
theorem pair_eq (hi : σ[i]? = some (some (.str z))) (hj : σ[j]? = some (some (.str z'))) (hz : rkS z = some n) (hz' : rkS z' = some n')
    (q : ∀ H3, Same H H3 → Q (decide (z = z')) H3) :
    tTest (tOp (rOwnL K CM (spEqM K CM)) (tMake CM (spModeQ K CM) [] E0 (tCons (tVar i) tNil)) (tMake CM (spModeQ K CM) [] E0 (tCons (tVar j) tNil))) σ H Q := by
  refine ⟨_, hi, fun x dx nx nd ne => ⟨x, dx, z, n, rfl, upd_same, hz, rfl, ?_⟩⟩
  rw [upd_upd]
  have S1 := same_two (o := .own x) (o' := mdO CM dx z) nd nx ne
  refine ⟨_, hj, fun x2 dx2 nx2 nd2 ne2 => ⟨x2, dx2, z', n', rfl, upd_same, hz', rfl, ?_⟩⟩
  rw [upd_upd]
  have S2 := same_two (o := .own x2) (o' := mdO CM dx2 z') nd2 nx2 ne2
  have h1 := S2 _ _ (upd_same (H := upd H dx (.own x)) (a := x) (o := mdO CM dx z))
  exact ⟨x, dx, _, rfl, h1, .inr ⟨x2, dx2, _, rfl, upd_same⟩, x, dx, z, .ref x2, rfl, h1, .inr ⟨x2, dx2, z', rfl, upd_same, _, rfl, _, rfl, q _ (S1.trans S2)⟩⟩
theorem pair_ne (hi : σ[i]? = some (some (.str z))) (hj : σ[j]? = some (some (.str z'))) (hz : rkS z = some n) (hz' : rkS z' = some n')
    (q : ∀ H3, Same H H3 → Q (!decide (z = z')) H3) :
    tTest (tOp (rOwnNe CM (spEqM K CM)) (tMake CM (spModeQ K CM) [] E0 (tCons (tVar i) tNil)) (tMake CM (spModeQ K CM) [] E0 (tCons (tVar j) tNil))) σ H Q := by
  refine ⟨_, hi, fun x dx nx nd ne => ⟨x, dx, z, n, rfl, upd_same, hz, rfl, ?_⟩⟩
  rw [upd_upd]
  have S1 := same_two (o := .own x) (o' := mdO CM dx z) nd nx ne
  refine ⟨_, hj, fun x2 dx2 nx2 nd2 ne2 => ⟨x2, dx2, z', n', rfl, upd_same, hz', rfl, ?_⟩⟩
  rw [upd_upd]
  have S2 := same_two (o := .own x2) (o' := mdO CM dx2 z') nd2 nx2 ne2
  have h1 := S2 _ _ (upd_same (H := upd H dx (.own x)) (a := x) (o := mdO CM dx z))
  exact ⟨x, dx, _, x2, dx2, _, rfl, h1, rfl, upd_same, x, dx, z, .ref x2, rfl, h1, .inr ⟨x2, dx2, z', rfl, upd_same, _, rfl, _, rfl, q _ (S1.trans S2)⟩⟩
end
/-- the words of the law's dict -/
def rkV : List V := rkKV.map fun kv => kV kv.1
theorem take_yes {p : V → Bool} {i : Nat} {x : V} (e : rkV[i]? = some x) (h : p x = true) : (rkV.take (i + 1)).filter p = (rkV.take i).filter p ++ [x] := by
  rw [List.take_succ, e, List.filter_append]
  simp [h]
theorem take_no {p : V → Bool} {i : Nat} {x : V} (e : rkV[i]? = some x) (h : p x = false) : (rkV.take (i + 1)).filter p = (rkV.take i).filter p := by
  rw [List.take_succ, e, List.filter_append]
  simp [h]
theorem mates {z : Str} {n : Int} (h : rkS z = some n) : (rkV.filter fun y => decide (y = V.str z)) = [V.str z] ∧ (rkV.filter fun y => !decide (y = V.str z)).length = 3 ∧
    SeqAt.shaped (.list [.str z]) = true ∧ PyData.eqv (.list [.str z]) (.list [.str z]) = true := by
  rcases rk_word (d := .str z) h with q | q | q | q <;> (cases q; exact ⟨by decide +kernel, by decide +kernel, by decide +kernel, by decide +kernel⟩)
theorem rkV_len {p : V → Bool} {i : Nat} : ((rkV.take i).filter p).length < sizeLine := by
  have h1 := List.length_filter_le p (rkV.take i)
  have h2 : (rkV.take i).length ≤ 4 := by rw [List.length_take]; exact Nat.min_le_right _ _
  have h3 : 16 < sizeLine := by decide
  omega
end Rm

set_option maxRecDepth 100000
set_option maxHeartbeats 4000000
namespace Rm
open PySem PySem.Spec L2
open PyProof.Rows hiding St

/-! ### the end: the law's promise, asked by the caller that has no display under way -/
section
variable {P : Program} {w : World} {K : PySem.W.Frag} {mg mb : Str → Option Value} {k : Nat} {fa a : Addr} {fd : FuncData} {x : Str} {sp : Sp}
variable {s : Shared} {vs : List Value} {ns : List Int}
/-- what the caller is told -/
def Told (s : Shared) (r : Result) (s' : Shared) : Prop :=
  r = .ok (.ret (.bool true)) ∧ OldK s.heap s'.heap ∧ s'.os = s.os ∧ AllBare s'.gens
/-- the heap H tracks the script at most -/
structure Bare (P : Program) (w : World) (K : PySem.W.Frag) (s : Shared) (a : Addr) (H : Hp) : Prop where
  only : Only H
  hok : HOk P w H s.heap
  at_ : ∀ b u, H b = some u → b = a
  out : ∀ u, H a = some u → K.lookup a = none
  lst : ∃ vs : List Value, s.heap.get? a = some { cls := .type "list", data := .seq vs.toArray }
theorem Bare.dict {H : Hp} (B : Bare P w K s a H) {b : Addr} {o : Obj} {es : Array DictEntry} {ep : Nat}
    (e : s.heap.get? b = some o) (d : o.data = .dict es ep) : H b = none := by
  cases q : H b with
  | none => rfl
  | some u =>
    obtain ⟨vs, l⟩ := B.lst
    have z := B.at_ b u q
    rw [z, l] at e
    cases e
    exact absurd (show Data.seq vs.toArray _ = Data.dict es ep from d) (by intro y; cases y)
theorem Bare.names {H : Hp} (B : Bare P w K s a H) {b : Addr} {m : Str → Option Value} (h : s.heap.Ns b m) : (hidT s.heap H).Ns b m := by
  obtain ⟨o, es, ep, e, d, r⟩ := h
  exact ⟨o, es, ep, hidT_get e (B.dict e d), d, r⟩
theorem Bare.kin {H : Hp} (B : Bare P w K s a H) (KX : K.In s.heap) : K.In (hidT s.heap H) := fun b o e => by
  refine hidT_get (KX b o e) ?_
  cases q : H b with
  | none => rfl
  | some u =>
    have z := B.at_ b u q
    subst z
    rw [B.out u q] at e
    cases e
theorem told_of {H : Hp} (B : Bare P w K s a H) (KX : K.In s.heap) (hns : s.heap.Ns mainGlobals mg) (hb : s.heap.Ns builtinsNs mb)
    (hbb : ∀ y : Str, y ≠ "__name__" → mb y = bootBuiltins y) (hlim : s.heap.NoLimit) (hg : s.gens = #[]) (hr : Room k callerA)
    (F : ∀ base : Heap, K.In base → base.Ns mainGlobals mg → FnG P w K mg base CX0 k fa fd [x] sp)
    (hbind : ∀ (s : Shared) (u : Value), BindsTo s fd ⟨[u], []⟩ [(x, u)])
    (q : sp [.ref a] H (fun v _ => v = .bl true) E0) :
    codeAny (model P w) callerA (.call (.ref fa) ⟨[.ref a], []⟩) (Told s) s := by
  have kin := B.kin KX
  have lim : (hidT s.heap H).NoLimit := by
    obtain ⟨mc, h1, h2⟩ := hlim
    exact ⟨mc, B.names h1, h2⟩
  have md : Mod K mg (hidT s.heap H) := ⟨kin, B.names hns, ⟨mb, B.names hb, hbb⟩, lim⟩
  have none_in : ∀ b : Addr, b ∉ ([] : List Addr) := fun b z => by cases z
  have env : Env0 P w K mg (hidT s.heap H) callerA [] s H :=
    ⟨rfl, md, fun b o e => of_hidT e, Nat.le_of_eq (hidT_size _ _), trivial, fun b z => absurd z (none_in b), B.hok, .of_eq hg⟩
  have run := (F _ kin (B.names hns)).run callerA [] s H ⟨[.ref a], []⟩ [.ref a] [.ref a] _ _ hr rfl env (hbind s (.ref a)) (.cons rfl .nil) q
  refine codeAny_mono run fun r s' h => ?_
  match r, h with
  | .error e, h => exact False.elim h
  | .ok .next, h => exact False.elim h
  | .ok .brk, h => exact False.elim h
  | .ok .cont, h => exact False.elim h
  | .ok (.ret u), ⟨v, H', os, bare, un, hok', r', ev⟩ =>
    have ev : v = .bl true := ev
    subst ev
    have eu : u = Value.bool true := r'
    subst eu
    refine ⟨rfl, OldK.of_keep fun b o e => ?_, os, bare⟩
    rcases B.only b with z | ⟨ob, xs, z⟩
    · exact un.keep b o e z (none_in b) (none_in b)
    · have e1 := (B.hok b _ z).1
      have e2 := (hok' b _ (un.frzs b ob _ z)).1
      exact e2.trans (e1.symm.trans e)
/-- the script as the one tracked thing -/
def scH (a : Addr) (vs : List Value) (ns : List Int) : Hp := fun b =>
  if b = a then some (.frz { cls := .type "list", data := .seq vs.toArray } (.lst (ns.map V.int))) else none
theorem bare_sc (hk : K.lookup a = none) (ha : s.heap.get? a = some { cls := .type "list", data := .seq vs.toArray }) (hi : IntsAre vs ns)
    (hl : ns.length ≤ sizeLine) : Bare P w K s a (scH a vs ns) := by
  have at_ : ∀ b u, scH a vs ns b = some u → b = a := fun b u z => by
    unfold scH at z
    split at z
    · assumption
    · cases z
  refine ⟨fun b => ?_, fun b u z => ?_, at_, fun _ _ => hk, vs, ha⟩
  · unfold scH
    split
    · exact .inr ⟨_, _, rfl⟩
    · exact .inl rfl
  · have e := at_ b u z
    subst e
    unfold scH at z
    rw [if_pos rfl] at z
    cases z
    exact ⟨ha, by rw [List.length_map]; exact hl, vs, _, vals_ints hi, ha⟩
theorem bare_k (ha : s.heap.get? a = some { cls := .type "list", data := .seq vs.toArray }) : Bare P w K s a (fun _ => none) :=
  ⟨fun _ => .inl rfl, fun _ _ z => (nomatch z), fun _ _ z => (nomatch z), fun _ z => (nomatch z), vs, ha⟩
end
theorem walkG {l : PySem.W.OpenLaw} {k : Nat} {q : Program} {loose : List Str} {XP : (Str → Option Value) → Heap → Prop} {YP : World → Heap → Prop} {d : DefRec}
    {K : Params → PySem.W.Frag} (hn : l.most = some 63) (hdf : d.params.defaults = []) (hr : Room k callerA)
    (hY : ∀ (w : World) (h : Heap), YP w h → (K w.params).In h)
    (F : ∀ (w : World) (mg : Str → Option Value) (fa : Addr) (h : Heap), (K w.params).In h → h.Ns mainGlobals mg → mg d.name = some (.ref fa) →
      ∃ fd : FuncData, (∀ (s : Shared) (u : Value), BindsTo s fd ⟨[u], []⟩ [("_law_script", u)]) ∧
        ∀ base : Heap, (K w.params).In base → base.Ns mainGlobals mg → FnG l.prog w (K w.params) mg base CX0 k fa fd ["_law_script"] (spLaw (K w.params))) :
    PySem.W.WalkO q loose XP YP l.row.toRowW d [] (fun f vs => PySem.call f vs) := by
  refine Att.attach_callB hn hdf fun w s₀ s mg mb fa o pm cd doc a vs ns G Y ho hd hcd hmg ha hi hlen hbits hg => ?_
  have KX := hY w _ Y
  obtain ⟨fd, hb, hF⟩ := F w mg fa _ KX G.T.g hmg
  have hl : ns.length ≤ sizeLine := Nat.le_trans hlen (by decide)
  have go : ∀ H : Hp, Bare l.prog w (K w.params) s a H → SqL (K w.params) H a (ns.map V.int) →
      codeAny (model l.prog w) callerA (.call (.ref fa) ⟨[.ref a], []⟩) (Told s) s := fun H B S =>
    told_of B KX G.T.g G.T.b G.T.builtins G.T.nolimit hg hr hF hb ⟨a, ns, rfl, S, hlen, hbits, fun _ => rfl⟩
  cases hk : (K w.params).lookup a with
  | none => exact go _ (bare_sc hk ha hi hl) (.inl (.inr ⟨_, if_pos rfl⟩))
  | some ob =>
    have e := KX a ob hk
    rw [ha] at e
    cases e
    refine go _ (bare_k ha) (.inr ⟨_, vs.toArray, _, hk, rfl, rfl, rfl, ?_, ?_⟩)
    · rw [List.size_toArray, hi.length]; exact hl
    · simpa using vals_ints hi
/-- an error of the class at C is what `except` of C names -/
theorem em_self {K : PySem.W.Frag} {C : Addr} (h1 : PySem.W.subIn K (.ref C) (.type "BaseException") = some true) (h2 : PySem.W.hasDictIn K C = true)
    (h3 : PySem.W.typeIn K (.ref C) = some (.type "type")) (h4 : PySem.W.mroIn K C (.ref C) = some true) : PySem.W.exmOne K (.ref C) (.ref C) = some true := by
  have e : (PySem.W.clsIn K C).isSome = true := by
    obtain ⟨cd, z, _⟩ := PySem.W.any_some h2
    rw [z]; rfl
  unfold PySem.W.exmOne PySem.W.kitCls
  dsimp only
  rw [if_pos (by rw [h1]; rfl), if_pos (by rw [e, h3]; rfl)]
  exact h4
end Rm

set_option maxRecDepth 100000
set_option maxHeartbeats 4000000
namespace Rm
open PySem PySem.Spec L2
open PyProof.Rows hiding St

/-! ### one keyword and nothing else -/
/-- the keyword y fills the last of ps, behind n values -/
structure Kw1 (fd : FuncData) (ps : List Str) (n : Nat) (y : Str) : Prop where
  to : ∀ (s : Shared) (us : List Value) (w : Value), us.length = n → BindsTo s fd ⟨us, [(y, w)]⟩ (ps.zip (us ++ [w]))
def CmK (P : Program) (w : World) (K : PySem.W.Frag) (mg : Str → Option Value) (base : Heap) (CX : CXT)
    (k : Nat) (C : Addr) (m : Str) (ps : List Str) (y : Str) (sp : Sp) : Prop :=
  ∃ f fd, Cls K C ∧ Meth K C m f ∧ Kw1 fd ps 1 y ∧ FnG P w K mg base CX k f fd ps sp
def CnK (P : Program) (w : World) (K : PySem.W.Frag) (mg : Str → Option Value) (base : Heap) (CX : CXT)
    (k : Nat) (x : Str) (C : Addr) (ps : List Str) (y : Str) (sp : Sp) : Prop :=
  ∃ f fd, mg x = some (.ref C) ∧ Mk K C f ∧ Kw1 fd ps 1 y ∧ FnG P w K mg base CX k f fd ps sp
section
variable {X : Cx} {CX : CXT} {k n : Nat} {f C : Addr} {fd : FuncData} {ps : List Str} {sp : Sp} {E : XK} {x m y : Str} {p pos apos kpos : Pos} {e o : Expr} {te ta : TE}
theorem goes1 {pins : List (Addr × Obj)} {σ : L2.St} {H : Hp} {s : Shared} {Q : VK} {us : List Value} {vs : List V} {u : Value} {v : V}
    (F : FnG X.prog X.w X.K X.mg X.base CX k f fd ps sp) (hr : Room k X.A) (hG : Gd X.A) (hb : Kw1 fd ps n y) (hx : Passes CX X E)
    (I : Inv X pins σ H s) (r : Vals vs us) (rv : RelV v u) (hl : vs.length = n) (h : sp (vs ++ [v]) H Q E) :
    wpAny (model X.prog X.w) X.A (call (.ref f) us [(y, u)]) (EP X pins σ Q) X.xe s :=
  wpAny_call (codeAny_mono (F.run X.A X.stack s H ⟨us, [(y, u)]⟩ (us ++ [u]) (vs ++ [v]) Q E hr hG I.env0
    (hb.to s us u (r.length.symm.trans hl)) (r.append (.cons rv .nil)) h) fun r s' hq => came hx I hq)
theorem kw_one {pins : List (Addr × Obj)} {σ : L2.St} {H : Hp} {s : Shared} {Q : VK} (ha : PE X e te) (I : Inv X pins σ H s) (h : te σ H Q) :
    wpAny (model X.prog X.w) X.A (evalAll ((backToKw pos (keywordEach [⟨some y, e, kpos⟩] X.env)).map (·.2)))
      (fun us s' => ∃ v u H', us = [u] ∧ Inv X pins σ H' s' ∧ RelV v u ∧ Q v H') X.xe s := by
  show wpAny _ _ (evalAll ((do let v ← eval e X.env; standAt pos; pure v) :: [])) _ _ s
  refine wpAny_evalAll_cons (wpAny_bind (thn (ha.run pins s σ H _ I h) fun u s1 hh => wpAny_bind (wpAny_standAt (wpAny_pure ?_))))
  obtain ⟨v, H1, I1, r1, q1⟩ := hh
  exact wpAny_evalAll_nil ⟨v, u, H1, rfl, I1, r1, q1⟩
theorem pe_cmK {pl : Sem Bool} (D : CmK X.prog X.w X.K X.mg X.base CX k C m ps y sp) (hr : Room k X.A) (hG : Gd X.A)
    (he : PE X o ta) (ha : PE X e te) (hx : Passes CX X E)
    (ht : eval (.Call (.Attribute o m apos) [] [⟨some y, e, kpos⟩] pos) X.env = (do
      let ov ← eval o X.env
      standAt apos.atName
      let (g, first) ← holding [ov] (getMethod ov m pl)
      callWith pos g first (backTo pos (starEach [] X.env)) (backToKw pos (keywordEach [⟨some y, e, kpos⟩] X.env))) := by rfl) :
    PE X (.Call (.Attribute o m apos) [] [⟨some y, e, kpos⟩] pos) (tMeth C m sp [] E ta (tCons te tNil)) := by
  obtain ⟨f, fd, c, hm, hb, F⟩ := D
  constructor
  intro pins s σ H Q I h
  refine PySem.W.methodCall_KW (pl := pl)
    (thn (he.run pins s σ H _ I h) fun u s1 ⟨z, H1, I1, rz, a, dx, fs, ez, ea, l, q⟩ => ?_) ht
  subst ez
  cases rz
  refine getmeth_ok I1 ea c hm l (PySem.W.callWith_KW0 (first := [.ref a]) (h₀ := X.base) I1.ok.mod.kin hm.kp rfl
    (thn (kw_one ha I1 q) fun us s2 hh => ?_) rfl)
  obtain ⟨v, u, H2, rfl, I2, r1, q2⟩ := hh
  exact ⟨I2.kIn, goes1 (us := [.ref a]) (vs := [.ref a]) F hr hG hb hx I2 (.cons rfl .nil) r1 rfl q2⟩
theorem grows1 {pins : List (Addr × Obj)} {σ : L2.St} {H : Hp} {s : Shared} {Q : VK} {v : V} {u : Value} (M : Mk X.K C f)
    (F : FnG X.prog X.w X.K X.mg X.base CX k f fd ps sp) (hr : Room (k + 1) X.A) (hG : Gd X.A) (hb : Kw1 fd ps 1 y) (hx : Passes CX X E)
    (I : Inv X pins σ H s) (rv : RelV v u)
    (h : ∀ z dx, H z = none → H dx = none → dx ≠ z → sp [.ref z, v] (upd (upd H dx (.own z)) z (.ins C dx [])) (fun v H2 => v = .non ∧ Q (.ref z) H2) E) :
    wpAny (model X.prog X.w) X.A (call (.ref C) [] [(y, u)]) (EP X pins σ Q) X.xe s := by
  have hq := h (s.heap.objs.size + 1) s.heap.objs.size (I.hok.fresh (Nat.le_succ _)) (I.hok.fresh (Nat.le_refl _)) (Nat.ne_of_lt (Nat.lt_succ_self _))
  have I2 := Inv.made (C := C) I
  refine wpAny_call (make_map (f := f) I.kIn M.makes M.init (beq_iff_eq.mp M.fn)
    (codeAny_mono (F.run _ X.stack _ _ ⟨[Value.ref (s.heap.objs.size + 1)], [(y, u)]⟩ [Value.ref (s.heap.objs.size + 1), u] _ _ E
      (hr.make C [] [(y, u)]) (hG.make C [] [(y, u)]) (I2.env0.make C [] [(y, u)])
      (hb.to _ [Value.ref (s.heap.objs.size + 1)] u rfl) (show Vals [V.ref (s.heap.objs.size + 1), v] _ from .cons rfl (.cons rv .nil)) hq) fun r s' hq' => ?_))
  match r, hq' with
  | .error er, hq' => exact hx pins σ _ _ er s' I2 hq'
  | .ok (.ret z), hq' =>
    obtain ⟨v, H', I3, rz, ev, q3⟩ := I2.after hq'
    subst ev
    exact ⟨rz, V.ref (s.heap.objs.size + 1), H', I3, rfl, q3⟩
  | .ok .next, hq' => exact False.elim hq'
  | .ok .brk, hq' => exact False.elim hq'
  | .ok .cont, hq' => exact False.elim hq'
theorem pe_cnK (D : CnK X.prog X.w X.K X.mg X.base CX k x C ps y sp) (hr : Room (k + 1) X.A) (hG : Gd X.A) (ha : PE X e te) (hx : Passes CX X E)
    (hg : Gl X x := by rfl) (hdb : (x == ("__debug__" : Str)) = false := by decide) :
    PE X (.Call (.Name x p) [] [⟨some y, e, kpos⟩] pos) (tMake C sp [] E (tCons te tNil)) := by
  obtain ⟨f, fd, hm, M, hb, F⟩ := D
  constructor
  intro pins s σ H Q I h
  refine wpAny_Call_Name_kw (ld_glob I hg hm ?_ hdb)
  refine PySem.W.callWith_KW0 (first := []) (h₀ := X.base) I.ok.mod.kin M.kp rfl (thn (kw_one ha I h) fun us s2 hh => ?_) rfl
  obtain ⟨v, u, H2, rfl, I2, r1, q2⟩ := hh
  exact ⟨I2.kIn, grows1 M F hr hG hb hx I2 r1 q2⟩

/-! ### | by an own __or__ -/
def rOwnOr (C : Addr) (sp : Sp) : R2 := fun x y H Q => ∃ a dx fs b dy gs, x = .ref a ∧ H a = some (.ins C dx fs) ∧ y = .ref b ∧ H b = some (.ins C dy gs) ∧
  sp [x, y] H (fun z H' => (∃ c, z = .ref c) ∧ Q z H') E0
theorem op_ownOr (D : Cm X.prog X.w X.K X.mg X.base CX0 k C "__or__" ps sp) (sf : PySem.W.selfFirst X.K C = true) (hr : Room k X.A) (hG : Gd X.A) :
    OpR X (binaryOp .BitOr) (rOwnOr C sp) := by
  intro pins s σ H x y v u Q I rx ry h
  obtain ⟨a, dx, fs, b, dy, gs, rfl, ha, rfl, hb', q⟩ := h
  cases rx
  cases ry
  obtain ⟨f, fd, c, hm, hb, F0⟩ := D
  obtain ⟨mA, O, _⟩ := ins_get I.hok ha
  obtain ⟨od, J, _⟩ := O.look
  obtain ⟨mB, O', _⟩ := ins_get I.hok hb'
  obtain ⟨od', J', _⟩ := O'.look
  obtain ⟨m, hF⟩ := I.fr
  have hl : ([Value.ref a] ++ [Value.ref b]).length = ps.length := F0.len _ _ _ _ q
  refine PySem.W.binop_K (op := .BitOr) hF I.ok.mod.kin J J'.type sf hm.at_ hm.fn ?_
  refine wpAny_call (codeAny_mono (F0.run X.A X.stack s H ⟨[.ref a, .ref b], []⟩ [.ref a, .ref b] [.ref a, .ref b] _ _ hr hG I.env0
      (by have := hb s [.ref a, .ref b] I.kIn (by simpa using hl); simpa using this) (.cons rfl (.cons rfl .nil)) q) fun rr s' hq => ?_)
  match rr, hq with
  | .error er, hq => exact False.elim hq
  | .ok (.ret z), hq =>
    obtain ⟨y, H', I2, ry, ⟨⟨c, ey⟩, qq⟩⟩ := I.after hq
    subst ey
    cases ry
    exact ⟨.ref c, H', I2, rfl, qq⟩
  | .ok .next, hq => exact False.elim hq
  | .ok .brk, hq => exact False.elim hq
  | .ok .cont, hq => exact False.elim hq
end
end Rm

set_option maxRecDepth 100000
set_option maxHeartbeats 4000000
namespace Rm
open PySem PySem.Spec L2
open PyProof.Rows hiding St

/-! ### static methods -/
structure StM (K : PySem.W.Frag) (C : Addr) (m : Str) (f : Addr) : Prop where
  ga : PySem.W.specialIn K (.ref C) "__getattribute__" = some (some (.builtin "type.__getattribute__"))
  cls : Cls K C
  ty : PySem.W.typeIn K (.ref C) = some (.type "type")
  rd : PySem.W.readsIn K C (.type "type") = true
  at_ : ∃ p rest, PySem.W.findCls K (.ref C) (.type "type") m = some (.get (.builtin "staticmethod.__get__") (.ref p) .none (.ref C)) ∧
    PySem.W.recIn K p "staticmethod" = some (.ref f :: rest) ∧ PySem.W.findIn K (.ref C) m = some (some (.ref p)) ∧ PySem.W.typeIn K (.ref p) = some (.type "staticmethod") ∧
    PySem.W.specialIn K (.ref p) "__get__" = some (some (.builtin "staticmethod.__get__")) ∧ PySem.W.takesIn K (.ref p) = some false
  cp : PySem.W.copiedNames.contains m = false
  kp : PySem.W.keepIn K (.ref f) = true
def Cs (P : Program) (w : World) (K : PySem.W.Frag) (mg : Str → Option Value) (base : Heap) (CX : CXT)
    (k : Nat) (C : Addr) (m : Str) (ps : List Str) (y : Str) (sp : Sp) : Prop :=
  ∃ f fd, StM K C m f ∧ Binds K fd ps [] ∧ Kw1 fd ps 0 y ∧ FnG P w K mg base CX k f fd ps sp
def tStat (C : Addr) (sp : Sp) (E : XK) (ta : TE) (t : TA) : TE := fun σ H Q => ta σ H fun x H1 => x = .ref C ∧ t σ H1 fun vs H2 => sp vs H2 Q E
def tStatI (C : Addr) (m : Str) (sp : Sp) (E : XK) (ta : TE) (t : TA) : TE := fun σ H Q => ta σ H fun x H1 =>
  ∃ a dx fs, x = .ref a ∧ H1 a = some (.ins C dx fs) ∧ fs.lookup m = none ∧ t σ H1 fun vs H2 => sp vs H2 Q E
section
variable {X : Cx} {CX : CXT} {k : Nat} {f C : Addr} {ps : List Str} {sp : Sp} {E : XK} {m y : Str} {pos apos kpos : Pos} {e o : Expr} {es : List Expr} {te ta : TE} {t : TA}
theorem get_sm {pl : Sem Bool} {pins : List (Addr × Obj)} {σ : L2.St} {H : Hp} {s : Shared} {Q : Value × List Value → Shared → Prop} (S : StM X.K C m f) (I : Inv X pins σ H s)
    (h : ∀ s', Inv X pins σ H s' → Q (.ref f, []) s') : wpAny (model X.prog X.w) X.A (getMethod (.ref C) m pl) Q X.xe s := by
  obtain ⟨p, rest, h1, h2, _⟩ := S.at_
  obtain ⟨n, hF⟩ := I.fr
  exact PySem.W.method_of_cls hF I.ok.mod.kin S.ga (PySem.W.cls_sm hF I.ok.mod.kin S.ty S.rd h1 h2 rfl (h _ (I.tok _)))
theorem get_smI {pl : Sem Bool} {pins : List (Addr × Obj)} {σ : L2.St} {H : Hp} {s : Shared} {Q : Value × List Value → Shared → Prop} {a dx : Addr} {fs : List (Str × V)}
    (S : StM X.K C m f) (I : Inv X pins σ H s) (ea : H a = some (.ins C dx fs)) (l : fs.lookup m = none)
    (h : ∀ s', Inv X pins σ H s' → Q (.ref f, []) s') : wpAny (model X.prog X.w) X.A (getMethod (.ref a) m pl) Q X.xe s := by
  obtain ⟨p, rest, _, h2, h3, h4, h5, h6⟩ := S.at_
  obtain ⟨mA, O, r, _⟩ := ins_get I.hok ea
  have hn : mA m = none := RelO.none_of (by rw [← l]; exact r m)
  obtain ⟨od, J, lk⟩ := O.look
  have pg := PySem.W.plainGet_of (S.cls.get m)
  refine PySem.W.method_usual (r := some (.ref p)) I.kIn J pg.1 pg.2 h3 (by simp only [Option.all_some, h4, Option.any_some]; decide +kernel) ?_
  refine PySem.W.get_bind I.kIn J pg.1 (PySem.W.findObj_fn S.cls.hd h3 h5 h6 S.cp (by rw [lk, hn])) pg.2 ?_
  exact wpAny_call (PySem.W.sm_get (s := { s with toks := s.toks + 1 }) I.kIn h2 (PySem.W.handed_on rfl (h _ (I.tok _))))
theorem pe_cs {pl : Sem Bool} (D : Cs X.prog X.w X.K X.mg X.base CX k C m ps y sp) (hr : Room k X.A) (hG : Gd X.A)
    (he : PE X o ta) (ha : PA X (e :: es) t) (hx : Passes CX X E)
    (hst : starEach (e :: es) X.env = (false, eval e X.env) :: starEach es X.env := by rfl)
    (hpl : (backTo pos (starEach es X.env)).any (·.1) = false := by rfl)
    (ht : eval (.Call (.Attribute o m apos) (e :: es) [] pos) X.env = (do
      let ov ← eval o X.env
      standAt apos.atName
      let (g, first) ← holding [ov] (getMethod ov m pl)
      callWith pos g first (backTo pos (starEach (e :: es) X.env)) (backToKw pos (keywordEach [] X.env))) := by rfl) :
    PE X (.Call (.Attribute o m apos) (e :: es) [] pos) (tStat C sp E ta t) := by
  obtain ⟨f, fd, S, hb, _, F⟩ := D
  constructor
  intro pins s σ H Q I h
  refine PySem.W.methodCall_KW (pl := pl) (thn (he.run pins s σ H _ I h) fun u s1 ⟨z, H1, I1, rz, ez, q⟩ => ?_) ht
  subst ez
  cases rz
  refine get_sm S I1 fun s2 I2 => PySem.W.callWith_K (first := []) (h₀ := X.base) I.ok.mod.kin S.kp (thn (ha.run pos pins s2 σ H1 _ I2 q) fun us s3 ⟨vs, H2, I3, r, q2⟩ =>
      ⟨I3.kIn, goes (dvs := []) (ds := []) F hr hG hb .nil hx I3 r (by rw [List.append_nil]; exact q2)⟩) hst hpl
theorem pe_csI {pl : Sem Bool} (D : Cs X.prog X.w X.K X.mg X.base CX k C m ps y sp) (hr : Room k X.A) (hG : Gd X.A)
    (he : PE X o ta) (ha : PA X (e :: es) t) (hx : Passes CX X E)
    (hst : starEach (e :: es) X.env = (false, eval e X.env) :: starEach es X.env := by rfl)
    (hpl : (backTo pos (starEach es X.env)).any (·.1) = false := by rfl)
    (ht : eval (.Call (.Attribute o m apos) (e :: es) [] pos) X.env = (do
      let ov ← eval o X.env
      standAt apos.atName
      let (g, first) ← holding [ov] (getMethod ov m pl)
      callWith pos g first (backTo pos (starEach (e :: es) X.env)) (backToKw pos (keywordEach [] X.env))) := by rfl) :
    PE X (.Call (.Attribute o m apos) (e :: es) [] pos) (tStatI C m sp E ta t) := by
  obtain ⟨f, fd, S, hb, _, F⟩ := D
  constructor
  intro pins s σ H Q I h
  refine PySem.W.methodCall_KW (pl := pl) (thn (he.run pins s σ H _ I h) fun u s1 ⟨z, H1, I1, rz, a, dx, fs, ez, ea, l, q⟩ => ?_) ht
  subst ez
  cases rz
  refine get_smI S I1 ea l fun s2 I2 => PySem.W.callWith_K (first := []) (h₀ := X.base) I.ok.mod.kin S.kp (thn (ha.run pos pins s2 σ H1 _ I2 q) fun us s3 ⟨vs, H2, I3, r, q2⟩ =>
      ⟨I3.kIn, goes (dvs := []) (ds := []) F hr hG hb .nil hx I3 r (by rw [List.append_nil]; exact q2)⟩) hst hpl
theorem pe_csK {pl : Sem Bool} (D : Cs X.prog X.w X.K X.mg X.base CX k C m ps y sp) (hr : Room k X.A) (hG : Gd X.A)
    (he : PE X o ta) (ha : PE X e te) (hx : Passes CX X E)
    (ht : eval (.Call (.Attribute o m apos) [] [⟨some y, e, kpos⟩] pos) X.env = (do
      let ov ← eval o X.env
      standAt apos.atName
      let (g, first) ← holding [ov] (getMethod ov m pl)
      callWith pos g first (backTo pos (starEach [] X.env)) (backToKw pos (keywordEach [⟨some y, e, kpos⟩] X.env))) := by rfl) :
    PE X (.Call (.Attribute o m apos) [] [⟨some y, e, kpos⟩] pos) (tStat C sp E ta (tCons te tNil)) := by
  obtain ⟨f, fd, S, _, hb, F⟩ := D
  constructor
  intro pins s σ H Q I h
  refine PySem.W.methodCall_KW (pl := pl) (thn (he.run pins s σ H _ I h) fun u s1 ⟨z, H1, I1, rz, ez, q⟩ => ?_) ht
  subst ez
  cases rz
  refine get_sm S I1 fun s2 I2 => PySem.W.callWith_KW0 (first := []) (h₀ := X.base) I.ok.mod.kin S.kp rfl (thn (kw_one ha I2 q) fun us s3 hh => ?_) rfl
  obtain ⟨v, u, H2, rfl, I3, r1, q2⟩ := hh
  exact ⟨I3.kIn, goes1 (us := []) (vs := []) F hr hG hb hx I3 .nil r1 rfl q2⟩
end
end Rm

set_option maxRecDepth 100000
set_option maxHeartbeats 4000000
namespace Rm
open PySem PySem.Spec L2
open PyProof.Rows hiding St

/-! ### max(list of words, key=own def, default=None) -/
/-- an object that nothing of ours knows -/
structure Apart (X : Cx) (pins : List (Addr × Obj)) (H : Hp) (a : Addr) : Prop where
  na : H a = none
  nL : a ≠ X.env.locals
  nF : a ∉ X.fs
  n0 : X.s_0.heap.get? a = none
  nC : ∀ x c, X.env.cells.lookup x = some c → c ≠ a
  nP : ∀ p ∈ X.pn ++ pins, p.1 ≠ a
section
variable {X : Cx} {pins : List (Addr × Obj)} {σ : L2.St} {H : Hp} {s : Shared} {a : Addr}
theorem Apart.new (I : Inv X pins σ H s) (h : s.heap.objs.size ≤ a) : Apart X pins H a := by
  have no : s.heap.get? a = none := Heap.get?_none_of_le h
  refine ⟨I.hok.fresh h, fun e => ?_, I.nofs h, Heap.get?_none_of_le (Nat.le_trans I.sz h), fun x c e z => ?_, fun p hp z => ?_⟩
  · rw [e] at h
    exact absurd (Nat.lt_of_lt_of_le I.lt h) (Nat.lt_irrefl _)
  · obtain ⟨v, o, ho, _⟩ := I.cell x c e
    rw [z, no] at ho
    cases ho
  · have := (I.pin p hp).1
    rw [z, no] at this
    cases this
theorem Inv.other {h' : Heap} {t' : Nat} (I : Inv X pins σ H s) (A : Apart X pins H a)
    (k : ∀ b o, b ≠ a → s.heap.get? b = some o → h'.get? b = some o) : Inv X pins σ H { s with heap := h', toks := t' } := by
  obtain ⟨m, hn, hlk⟩ := id I.loc
  have ne0 : ∀ b o, X.s_0.heap.get? b = some o → b ≠ a := fun b o e z => by rw [z, A.n0] at e; cases e
  have ns : h'.Ns X.env.locals m := by
    obtain ⟨o, es, ep, e, d, r⟩ := hn
    exact ⟨o, es, ep, k _ _ (Ne.symm A.nL) e, d, r⟩
  refine ⟨I.ok, I.os, I.bare, ⟨fun b o e n hb hx => ?_, fun b o e n hb hx => ?_, I.base.free, fun b o e hx => ?_, I.base.tups, I.base.frzs, I.base.tbls⟩,
    ⟨m, ns, fun i x v e1 e2 e3 => ?_⟩, fun x c e => ?_, I.free, I.freeC, fun p hp => ?_, fun b ob e => ?_, I.len⟩
  · exact k _ _ (ne0 b o e) (I.base.keep b o e n hb hx)
  · obtain ⟨sl, e1⟩ := I.base.slot b o e n hb hx
    exact ⟨sl, k _ _ (ne0 b o e) e1⟩
  · obtain ⟨o', e1⟩ := I.base.there b o e hx
    exact ⟨o', k _ _ (ne0 b o e) e1⟩
  · obtain ⟨u, r, q⟩ := hlk i x v e1 e2 e3
    refine ⟨u, r, ?_⟩
    rcases q with q | ⟨kk, c, e, z⟩
    · exact .inl q
    · obtain ⟨o, ho, hd⟩ := z
      exact .inr ⟨kk, c, e, o, k _ _ (A.nC x c e) ho, hd⟩
  · obtain ⟨v, o, ho, hd⟩ := I.cell x c e
    exact ⟨v, o, k _ _ (A.nC x c e) ho, hd⟩
  · obtain ⟨e, r⟩ := I.pin p hp
    exact ⟨k _ _ (A.nP p hp) e, r⟩
  · refine (I.hok b ob e).stay (fun c w' hc q => k _ _ ?_ q) (fun _ q => q) fun _ _ q => q
    intro z
    subst z
    rcases hc with hc | hc
    · rw [← hc, A.na] at e; cases e
    · rw [A.na] at hc; cases hc
end
/-- the first of the greatest -/
def better (b : Option (Str × Int)) (p : Str × Int) : Option (Str × Int) := match b with
  | none => some p
  | some q => if p.2 > q.2 then some p else some q
def bestL (ws : List (Str × Int)) : Option (Str × Int) := ws.foldl better none
def bestV (ws : List (Str × Int)) : V := match bestL ws with
  | none => .non
  | some p => .str p.1
theorem best_next {ws : List (Str × Int)} {i : Nat} {p : Str × Int} (e : ws[i]? = some p) : bestL (ws.take (i + 1)) = better (bestL (ws.take i)) p := by
  unfold bestL
  rw [List.take_succ, e, List.foldl_append]
  rfl
/-- what the loop keeps of the best one so far -/
def Held (b : Option (Str × Int)) (items : List Value) : Prop := match b with
  | none => items = []
  | some p => ∃ t t', items = [.str p.1 t, .int p.2 t']
theorem max_args (a v d : Value) : argsOk "max" ⟨[a], [(Str.ofString "key", v), (Str.ofString "default", d)]⟩ := by unfold argsOk; kernel_rfl
section
variable {X : Cx} {pins : List (Addr × Obj)} {σ : L2.St} {H : Hp} {l q it S : Addr} {ws : List (Str × Int)} {fd : FuncData} {R : Result → Shared → Prop}
theorem max_loop (F0 : FnG X.prog X.w X.K X.mg X.base CX0 1 q fd ["word"] spRank) (hb : Binds X.K fd ["word"] []) (hr : Room 2 X.A) (hG : Gd X.A)
    (hh : X.A.handled = none) (hw : ∀ p ∈ ws, rkS p.1 = some p.2) (hl : SqL X.K H l (ws.map fun p => V.str p.1))
    (aI : Apart X pins H it) (aS : Apart X pins H S) (ne : it ≠ S)
    (hR : ∀ u s', Inv X pins σ H s' → RelV (bestV ws) u → R (.ok (.ret u)) s') :
    ∀ (r i : Nat) (s : Shared) (items : List Value) (c : Nat), ws.length - i = r → i ≤ ws.length → Inv X pins σ H s → s.heap.IsListIter it l i →
      s.heap.get? S = some (seqObj "list" items.toArray c) → Held (bestL (ws.take i)) items →
      codeAny (model X.prog X.w) X.A (.builtin "max.loop" ⟨[.ref it, .ref q, .ref S], [(Str.ofString "default", .none)]⟩) R s := by
  have hname : (toString "max" ++ toString ".loop" : String) = "max.loop" := by decide
  intro r
  induction r with
  | zero =>
    intro i s items c hi hle I hit hS hacc
    have e : i = ws.length := by omega
    subst e
    rw [List.take_length] at hacc
    obtain ⟨its, rv, hls, _⟩ := I.list hl
    have hn : its.toArray[ws.length]? = none := by
      have e1 := rv.length
      rw [List.length_map] at e1
      rw [e1]
      simp
    refine codeAny_builtin PySem.F.entry_max_loop ?_
    rw [Around.under_plainId PySem.F.plain_max_loop _]
    show wpAny _ X.A.in1 (seqItems? (.ref S) >>= _) _ _ _
    refine wpAny_bind (wpAny_seqItems hS rfl ?_)
    show wpAny _ X.A.in1 (tryCatch (pyNext (.ref it)) _ >>= _) _ _ _
    refine wpAny_bind (wpAny_tryCatch (wpAny_pyNext_list_end hh hit hls.isList hn fun h' hk => ?_))
    have I1 : Inv X pins σ H { s with heap := h' } := Inv.other (t' := s.toks) I aI fun b o nb e => hk b o nb e
    have hS' := hk S _ (Ne.symm ne) hS
    unfold bestV at hR
    cases hB : bestL ws with
    | none =>
      rw [hB] at hacc hR
      have hacc : items = [] := hacc
      subst hacc
      refine wpAny_bind (wpAny_rule (wpAny_pure ?_))
      exact hR .none _ I1 rfl
    | some p =>
      rw [hB] at hacc hR
      obtain ⟨t, t', hacc⟩ := (show ∃ t t', items = [.str p.1 t, .int p.2 t'] from hacc)
      subst hacc
      show wpAny _ X.A.in1 (updateSeq S (fun _ => #[]) >>= _) _ _ _
      refine wpAny_bind ?_
      refine wpAny_updateSeq hS' rfl (wpAny_bind (wpAny_letGo (wpAny_pure ?_)))
      exact hR _ _ (Inv.other (t' := s.toks) I1 aS fun b o nb e => ((Heap.SameBut.update h' S _).2 b nb).trans e) ⟨t, rfl⟩
  | succ r ih =>
    intro i s items c hi hle I hit hS hacc
    have hlt : i < ws.length := by omega
    obtain ⟨its, rv, hls, _⟩ := I.list hl
    have ep : ws[i]? = some ws[i] := List.getElem?_eq_getElem hlt
    have em : (ws.map fun p => V.str p.1)[i]? = some (V.str ws[i].1) := by rw [List.getElem?_map, ep]; rfl
    obtain ⟨u, hu, ru⟩ := rv.get em
    obtain ⟨t, rfl⟩ := ru
    refine codeAny_builtin PySem.F.entry_max_loop ?_
    rw [Around.under_plainId PySem.F.plain_max_loop _]
    show wpAny _ X.A.in1 (seqItems? (.ref S) >>= _) _ _ _
    refine wpAny_bind (wpAny_seqItems hS rfl ?_)
    show wpAny _ X.A.in1 (tryCatch (pyNext (.ref it)) _ >>= _) _ _ _
    refine wpAny_bind (wpAny_tryCatch (wpAny_pyNext_list_item hit hls.isList (x := .str ws[i].1 t) (by simpa using hu) fun h' hit' hk => ?_))
    have I1 : Inv X pins σ H { s with heap := h' } := Inv.other (t' := s.toks) I aI fun b o nb e => (hk.2 b nb).trans e
    have hS' := (hk.2 S (Ne.symm ne)).trans hS
    obtain ⟨oI, hoI, hoc, hod⟩ := hit'
    -- the call
    have rk := hw _ (List.getElem_mem hlt)
    have P1 : Inv X ((it, oI) :: (S, seqObj "list" items.toArray c) :: pins) σ H { s with heap := h' } := I1.pins_of fun p hp => by
      rcases List.mem_cons.mp hp with e | hp
      · subst e
        exact ⟨hoI, aI.na, aI.nL, aI.nF, fun v z => by have z' : oI.data = .cell v := z; rw [hod] at z'; cases z'⟩
      · rcases List.mem_cons.mp hp with e | hp
        · subst e
          exact ⟨hS', aS.na, aS.nL, aS.nF, fun v z => nomatch z⟩
        · exact I1.pin p (List.mem_append_right _ hp)
    show wpAny _ X.A.in1 (tryCatch (holding [.str ws[i].1 t] (call (.ref q) [.str ws[i].1 t])) _ >>= _) _ _ _
    have q1 : spRank [V.str ws[i].1] H (fun v H' => v = .int ws[i].2 ∧ H' = H) E0 := ⟨_, _, rfl, rk, rfl, rfl⟩
    have run := F0.run X.A.in1 X.stack { s with heap := h' } H ⟨[.str ws[i].1 t], []⟩ [.str ws[i].1 t] [.str ws[i].1] _ _ hr.in1 hG.in1 P1.env0.in1
      (hb _ [.str ws[i].1 t] P1.kIn rfl) (.cons ⟨t, rfl⟩ .nil) q1
    refine wpAny_bind (wpAny_tryCatch (wpAny_holding (wpAny_call (codeAny_mono run fun rr s2 hq => ?_))))
    match rr, hq with
    | .error er, hq => exact False.elim hq
    | .ok .next, hq => exact False.elim hq
    | .ok .brk, hq => exact False.elim hq
    | .ok .cont, hq => exact False.elim hq
    | .ok (.ret z), hq =>
      obtain ⟨y, H2, I2, ry, ey, eH⟩ := P1.after hq
      subst ey
      subst eH
      obtain ⟨t2, rfl⟩ := ry
      have gI := (I2.pin (it, oI) (List.mem_append_right _ (.head _))).1
      have gS := (I2.pin (S, seqObj "list" items.toArray c) (List.mem_append_right _ (.tail _ (.head _)))).1
      have I3 : Inv X pins σ H2 s2 := I2.pins_of fun p hp => I2.pin p (List.mem_append_right _ (.tail _ (.tail _ hp)))
      have bn := best_next ep
      cases hB : bestL (ws.take i) with
      | none =>
        rw [hB] at hacc bn
        have hacc : items = [] := hacc
        subst hacc
        have s1 := Heap.SameBut.update s2.heap S (Obj.mapSeq fun _ => #[Value.str ws[i].1 t, .int ws[i].2 t2])
        obtain ⟨c2, hc2⟩ : ∃ c2, (s2.heap.update S (Obj.mapSeq fun _ => #[Value.str ws[i].1 t, .int ws[i].2 t2])).get? S = some (seqObj "list" #[Value.str ws[i].1 t, .int ws[i].2 t2] c2) :=
          ⟨_, get?_update_seq gS fun _ => #[Value.str ws[i].1 t, .int ws[i].2 t2]⟩
        show wpAny _ X.A.in1 (updateSeq S (fun _ => #[Value.str ws[i].1 t, .int ws[i].2 t2]) >>= _) _ _ _
        refine wpAny_bind ?_
        refine wpAny_updateSeq gS rfl ?_
        rw [hname]
        refine wpAny_pure ⟨plainId_quiet PySem.F.plain_max_loop _, ih (i + 1) _ [.str ws[i].1 t, .int ws[i].2 t2] c2 (by omega) hlt (Inv.other (t' := s2.toks) I3 aS fun b o nb e => (s1.2 b nb).trans e)
          ⟨oI, (s1.2 it ne).trans gI, hoc, hod⟩ hc2 ?_⟩
        rw [bn]
        exact ⟨t, t2, rfl⟩
      | some p =>
        rw [hB] at hacc bn
        obtain ⟨tb, tb', hacc⟩ := (show ∃ t t', items = [.str p.1 t, .int p.2 t'] from hacc)
        subst hacc
        show wpAny _ X.A.in1 (tryCatch (holding [.str ws[i].1 t, .int ws[i].2 t2] (richCompare .Gt (.int ws[i].2 t2) (.int p.2 tb') >>= _)) _ >>= _) _ _ _
        refine wpAny_bind (wpAny_tryCatch (wpAny_holding (wpAny_bind (CmpOf.ints_gt (prog := X.prog) (w := X.w) (A := X.A.in1) (P := fun n v => ∃ t, v = .int (if n = 0 then ws[i].2 else p.2) t)
          (fun n => if n = 0 then ws[i].2 else p.2) (fun i v h => h) 0 1 _ _ _ _ _ ⟨t2, rfl⟩ ⟨tb', rfl⟩ ?_))))
        refine wpAny_bind (wpAny_holding (wpAny_truthy_bool ?_))
        refine wpAny_bind (wpAny_letGo (wpAny_pure ?_))
        simp only [if_true, Nat.one_ne_zero, if_false]
        by_cases hgt : ws[i].2 > p.2
        · have s1 := Heap.SameBut.update s2.heap S (Obj.mapSeq fun _ => #[Value.str ws[i].1 t, .int ws[i].2 t2])
          obtain ⟨c2, hc2⟩ : ∃ c2, (s2.heap.update S (Obj.mapSeq fun _ => #[Value.str ws[i].1 t, .int ws[i].2 t2])).get? S = some (seqObj "list" #[Value.str ws[i].1 t, .int ws[i].2 t2] c2) :=
            ⟨_, get?_update_seq gS fun _ => #[Value.str ws[i].1 t, .int ws[i].2 t2]⟩
          simp only [hgt, decide_true, if_true]
          refine wpAny_bind ?_
          refine wpAny_updateSeq gS rfl (wpAny_bind (wpAny_letGo ?_))
          rw [hname]
          refine wpAny_pure ⟨plainId_quiet PySem.F.plain_max_loop _, ih (i + 1) _ [.str ws[i].1 t, .int ws[i].2 t2] c2 (by omega) hlt (Inv.other (t' := s2.toks) I3 aS fun b o nb e => (s1.2 b nb).trans e)
            ⟨oI, (s1.2 it ne).trans gI, hoc, hod⟩ hc2 ?_⟩
          rw [bn]
          show Held (if _ then _ else _) _
          rw [if_pos hgt]
          exact ⟨t, t2, rfl⟩
        · simp only [hgt, decide_false, Bool.false_eq_true, if_false]
          refine wpAny_bind (wpAny_letGo ?_)
          rw [hname]
          refine wpAny_pure ⟨plainId_quiet PySem.F.plain_max_loop _, ih (i + 1) _ [.str p.1 tb, .int p.2 tb'] c (by omega) hlt I3 ⟨oI, gI, hoc, hod⟩ gS ?_⟩
          rw [bn]
          show Held (if _ then _ else _) _
          rw [if_neg hgt]
          exact ⟨tb, tb', rfl⟩
end
end Rm

set_option maxRecDepth 100000
set_option maxHeartbeats 4000000
namespace Rm
open PySem PySem.Spec L2
open PyProof.Rows hiding St
/-- max(ws, key=rank, default=None): the first of the greatest, or None -/
def rMaxW (K : PySem.W.Frag) (q : Addr) : List V → List V → Hp → VK → Prop := fun vs zs H Q => ∃ l ws, vs = [.ref l] ∧ zs = [.ref q, .non] ∧
  SqL K H l (ws.map fun p : Str × Int => V.str p.1) ∧ (∀ p ∈ ws, rkS p.1 = some p.2) ∧ Q (bestV ws) H
theorem call_maxW {X : Cx} {q : Addr} {fd : FuncData} (F0 : FnG X.prog X.w X.K X.mg X.base CX0 1 q fd ["word"] spRank) (hb : Binds X.K fd ["word"] []) (hr : Room 2 X.A) (hG : Gd X.A)
    (hc : X.calm = true) : CallRK X (.builtin "max") ["key", "default"] (rMaxW X.K q) := by
  have hname : (toString "max" ++ toString ".loop" : String) = "max.loop" := by decide
  intro pins s σ H vs us zs ws Q I r rz h
  obtain ⟨l, ps, rfl, rfl, hl, hw, hQ⟩ := h
  rw [Vals.ref1 r]
  obtain ⟨w1, w2, rfl, r1, r2⟩ := vals2 rz
  cases r1
  cases r2
  obtain ⟨its, rv, hls, _⟩ := I.list hl
  show wpAny _ X.A (call (.builtin "max") [.ref l] [(Str.ofString "key", .ref q), (Str.ofString "default", .none)]) _ _ s
  refine kmk_tree PySem.F.kind_max PySem.F.plain_max PySem.F.entry_max (max_args _ _ _) ?_
  show wpAny _ X.A.in1 (Builtin.Builtins.bindParams "max" ["key", "default"] 0 ⟨[], [(Str.ofString "key", .ref q), (Str.ofString "default", .none)]⟩ >>= _) _ _ s
  refine wpAny_bind (wpAny_of_eq (show Builtin.Builtins.bindParams "max" ["key", "default"] 0 ⟨[], [(Str.ofString "key", .ref q), (Str.ofString "default", .none)]⟩ = pure [some (.ref q), some .none] from rfl) ?_)
  refine wpAny_bind (wpAny_pure ?_)
  refine wpAny_bind (wpAny_pyIter_list hls.isList ?_)
  refine wpAny_bind (wpAny_newList ?_ (Nat.zero_le _))
  rw [hname]
  refine wpAny_pure ⟨plainId_quiet PySem.F.plain_max_loop _, ?_⟩
  have hS : (s.heap.push { cls := .type "list_iterator", data := .fields #[.ref l, .int 0 0] }).objs.size = s.heap.objs.size + 1 := size_push' ..
  have I1 : Inv X pins σ H { s with heap := s.heap.push { cls := .type "list_iterator", data := .fields #[.ref l, .int 0 0] } } :=
    I.kept (t' := s.toks) fun b o e => Heap.get?_push_of_some _ e
  have I2 : Inv X pins σ H { s with heap := (s.heap.push { cls := .type "list_iterator", data := .fields #[.ref l, .int 0 0] }).push (seqObj "list" #[] 0) } :=
    I1.kept (t' := s.toks) fun b o e => Heap.get?_push_of_some _ e
  have gI : ((s.heap.push { cls := .type "list_iterator", data := .fields #[.ref l, .int 0 0] }).push (seqObj "list" #[] 0)).get? s.heap.objs.size =
      some { cls := .type "list_iterator", data := .fields #[.ref l, .int 0 0] } := Heap.get?_push_of_some _ (Heap.get?_push_size _ rfl)
  have gS : ((s.heap.push { cls := .type "list_iterator", data := .fields #[.ref l, .int 0 0] }).push (seqObj "list" #[] 0)).get?
      (s.heap.push { cls := .type "list_iterator", data := .fields #[.ref l, .int 0 0] }).objs.size = some (seqObj "list" #[] 0) := Heap.get?_push_size _ rfl
  refine max_loop F0 hb hr hG (I.ok.hd hc) hw hl (Apart.new I (Nat.le_refl _)) (Apart.new I (by rw [hS]; exact Nat.le_succ _)) (by rw [hS]; exact Nat.ne_of_lt (Nat.lt_succ_self _))
    (fun u s' J ru => ?_) _ 0 _ [] 0 rfl (Nat.zero_le _) I2 ⟨_, gI, rfl, rfl⟩ gS rfl
  exact ⟨bestV ps, H, J, ru, hQ⟩
end Rm

set_option maxRecDepth 100000
set_option maxHeartbeats 4000000
namespace Rm
open PySem PySem.Spec L2
open PyProof.Rows hiding St

/-! ### xs[::-1] -/
def tRevL (K : PySem.W.Frag) (te ts : TE) : TE := fun σ H Q => te σ H fun x H1 => ts σ H1 fun y H2 => y = .int (-1) ∧ ∃ a xs, x = .ref a ∧ SqL K H2 a xs ∧
  ∀ p, H2 p = none → Q (.ref p) (upd H2 p (.lst xs.reverse))
theorem pe_rev {X : Cx} {e st : Expr} {te ts : TE} {p2 pos : Pos} (he : PE X e te) (hst : PE X st ts) :
    PE X (.Subscript e (.Slice none none (some st) p2) pos) (tRevL X.K te ts) := by
  refine ⟨fun pins s σ H Q I h => ?_⟩
  refine Subscript_ (thn (he.run pins s σ H _ I h) fun v s1 hh => ?_)
  obtain ⟨x, H1, I1, r1, q1⟩ := hh
  refine wpAny_Slice ?_
  rw [evalPart_none]
  refine wpAny_pure (wpAny_pure ?_)
  rw [evalPart_some]
  refine thn (hst.run pins s1 σ H1 _ I1 q1) fun vs s3 hh => ?_
  obtain ⟨y, H3, I3, ry, ey, a, xs, ex, hl, q⟩ := hh
  subst ey
  subst ex
  cases r1
  obtain ⟨t, rfl⟩ := ry
  have I4 : Inv X pins σ H3 { s3 with heap := s3.heap.push { cls := .type "slice", data := .fields #[.none, .none, .int (-1) t] } } :=
    I3.kept (t' := s3.toks) fun b ob q => Heap.get?_push_of_some _ q
  obtain ⟨its, r, ht, hz⟩ := I4.list hl
  have hlen := r.length
  show wpAny (model X.prog X.w) X.A (subscriptTail e (.Slice none none (some st) p2) (.ref a) (.ref s3.heap.objs.size)) (EP X pins σ Q) X.xe { s3 with heap := s3.heap.push { cls := .type "slice", data := .fields #[.none, .none, .int (-1) t] } }
  refine tail_any (ops := [.ref a, .ref s3.heap.objs.size]) ht.isList.typeIs slot_list_getitem.lookup ?_ rfl
  refine wpAny_getItem_list_slice ht.isList (Heap.IsSliceOf.new ..) .none .none (.int (-1) t) (by decide) ?_ (by rw [List.size_toArray] <;> omega)
  rw [PySem.W.krv_pick]
  refine ⟨.ref _, _, I4.laid (t' := s3.toks) (o := .lst xs.reverse) (fun b ob q => Heap.get?_push_of_some _ q) (Nat.le_refl _) ?_, rfl, q _ (I4.hok.fresh (Nat.le_refl _))⟩
  exact ⟨by rw [List.length_reverse]; omega, _, 0, r.reverse, Heap.get?_push_size _ rfl⟩

/-! ### walks -/
theorem for_enum {K : PySem.W.Frag} {a : Addr} {xs : List V} {g : TG} {tb : TS} {D : Ends} {σ : L2.St} {H : Hp} (Pv : Nat → L2.St → Hp → Prop)
    (h0 : Pv 0 σ H) (hl : ∀ i σ H, i ≤ xs.length → Pv i σ H → SqL K H a xs)
    (hs : ∀ i x T σ H, xs[i]? = some x → Pv i σ H → H T = none → g (.ref T) σ (upd H T (.tup [.int (i : Nat), x])) fun σ2 H2 => tb { D with nx := Pv (i + 1), ct := Pv (i + 1), bk := D.nx } σ2 H2)
    (hd : ∀ σ H, Pv xs.length σ H → D.nx σ H) :
    ∃ W : Nat → Nat → L2.St → Hp → Prop, (∃ m, W 0 m σ H) ∧ ∀ i m σ H, W i m σ H →
      ((Ite K a).stop i H ∧ D.nx σ H) ∨ ((Ite K a).go i H ∧ ∃ N : L2.St → Hp → Prop, (∀ σ' H', N σ' H' → ∃ m', m' < m ∧ W (i + 1) m' σ' H') ∧
        ∀ x H', (Ite K a).yld i H x H' → g x σ H' fun σ2 H2 => tb { D with nx := N, ct := N, bk := D.nx } σ2 H2) := by
  refine ⟨fun i m σ H => m = xs.length - i ∧ i ≤ xs.length ∧ Pv i σ H, ⟨xs.length, by simp, Nat.zero_le _, h0⟩, ?_⟩
  rintro i m σ H ⟨rfl, hi, p⟩
  have q := hl i σ H hi p
  by_cases hlt : i < xs.length
  · refine .inr ⟨⟨xs, xs[i], q, List.getElem?_eq_getElem hlt⟩, Pv (i + 1), fun σ' H' p' => ⟨xs.length - (i + 1), by omega, rfl, hlt, p'⟩, fun v H' y => ?_⟩
    obtain ⟨T, x, rfl, nT, rfl, e⟩ := y
    exact hs i x T σ _ (e xs q) p nT
  · have e : i = xs.length := by omega
    subst e
    exact .inl ⟨⟨xs, q, Nat.le_refl _⟩, hd σ H p⟩
theorem lc_range {lo : Int} {n : Nat} {g : TG} {tt : TT} {te : TE} {vs : List Nat} {σ : L2.St} {H1 : Hp} {D : Addr} {Qd : Hp → Prop} (Pv : Nat → Hp → Prop)
    (h0 : Pv 0 (upd H1 D (.lst [])))
    (hs : ∀ i H, i < n → Pv i H → g (.int (lo + (i : Nat))) (wipe σ vs) H fun σ2 H2 => wipe σ2 vs = wipe σ vs ∧ tt σ2 H2 fun b H3 =>
      if b = true then te σ2 H3 fun y H4 => ∃ acc, H4 D = some (.lst acc) ∧ acc.length < sizeLine ∧ Pv (i + 1) (upd H4 D (.lst (acc ++ [y]))) else Pv (i + 1) H3)
    (hd : ∀ H, Pv n H → Qd H) :
    ∃ W : Nat → Nat → Hp → Prop, (∃ m, W 0 m (upd H1 D (.lst []))) ∧ ∀ i m H, W i m H →
      ((Itr lo n).stop i H ∧ Qd H) ∨ ((Itr lo n).go i H ∧ ∃ Nx : Hp → Prop, (∀ H', Nx H' → ∃ m', m' < m ∧ W (i + 1) m' H') ∧ ∀ x H', (Itr lo n).yld i H x H' →
        g x (wipe σ vs) H' fun σ2 H2 => wipe σ2 vs = wipe σ vs ∧ tt σ2 H2 fun b H3 =>
          if b = true then te σ2 H3 fun y H4 => ∃ acc, H4 D = some (.lst acc) ∧ acc.length < sizeLine ∧ Nx (upd H4 D (.lst (acc ++ [y]))) else Nx H3) := by
  refine ⟨fun i m H => m = n - i ∧ i ≤ n ∧ Pv i H, ⟨n, by simp, Nat.zero_le _, h0⟩, ?_⟩
  rintro i m H ⟨rfl, hi, p⟩
  by_cases hlt : i < n
  · refine .inr ⟨hlt, Pv (i + 1), fun H' p' => ⟨n - (i + 1), by omega, rfl, hlt, p'⟩, fun x H' y => ?_⟩
    obtain ⟨e, y⟩ := y
    subst e y
    exact hs i _ hlt p
  · have e : i = n := by omega
    subst e
    exact .inl ⟨Nat.le_refl _, hd H p⟩

/-! ### what the modes' comparing defs keep -/
/-- two modes, their ranks -/
def spTwo (C : Addr) (r : Addr → Int → Addr → Int → V) : Sp := fun vs H Q _ => ∃ a dx z i b dy z' j, vs = [.ref a, .ref b] ∧ H a = some (mdO C dx z) ∧ H b = some (mdO C dy z') ∧
  rkS z = some i ∧ rkS z' = some j ∧ Q (r a i b j) H
def spWk (C : Addr) : Sp := spTwo C fun _ i _ j => .bl (decide (i < j))
def spCl (C : Addr) : Sp := spTwo C fun _ i _ j => .bl (decide (i + j ≥ 5))
def spOr (C : Addr) : Sp := spTwo C fun a i b j => if i < j then .ref b else .ref a
def spStr (K : PySem.W.Frag) : Sp := fun vs H Q _ => ∃ l ws, vs = [.ref l] ∧ SqL K H l (ws.map fun p : Str × Int => V.str p.1) ∧ (∀ p ∈ ws, rkS p.1 = some p.2) ∧ Q (bestV ws) H
/-- the grades are right -/
def spGr (K : PySem.W.Frag) : Sp := fun vs H Q _ => ∃ g, vs = [.ref g] ∧ SqL K H g rkV ∧ ∀ H', Same H H' → Q (.bl true) H'
theorem rk_at {i : Nat} {x : V} (h : rkV[i]? = some x) : ∃ z, x = .str z ∧ rkS z = some ((i : Int) + 1) ∧ i < 4 := by
  match i, h with
  | 0, h => cases h; exact ⟨_, rfl, rfl, by decide⟩
  | 1, h => cases h; exact ⟨_, rfl, rfl, by decide⟩
  | 2, h => cases h; exact ⟨_, rfl, rfl, by decide⟩
  | 3, h => cases h; exact ⟨_, rfl, rfl, by decide⟩
  | n + 4, h => cases h
theorem sm3 (a b c : Bool) : Sm (.list [.bool a, .bool b, .bool c]) := by
  cases a <;> cases b <;> cases c <;> exact Sm.of (by decide +kernel)
theorem eqv2 (a b : Bool) : SeqAt.shaped (.list [.bool a, .bool b]) = true ∧ PyData.eqv (.list [.bool a, .bool b]) (.list [.bool a, .bool b]) = true := by
  cases a <;> cases b <;> exact ⟨by decide +kernel, by decide +kernel⟩
theorem kit_self {K : PySem.W.Frag} {C : Addr} : PySem.W.kitOne K (.ref C) (.ref C) = some true := by
  unfold PySem.W.kitOne
  rw [if_pos (by simp)]
theorem rk_ge {i : Nat} {z : Str} {H : Hp} {n : Int} (h : rkV[i]? = some (.str z)) (e : n = i) : atI rkV n = some (V.str z) := by
  subst e
  exact atI_nat h
theorem cut2 (a b c : V) : cutV [a, b, c] none (some 2) = [a, b] := by
  unfold cutV
  rfl
/-! ### modes made and joined -/
/-- the reading gives a mode of the word z, rank n -/
def MdR (C : Addr) (t : TE) (σ : L2.St) (z : Str) (n : Int) : Prop :=
  rkS z = some n ∧ ∀ (H : Hp) (Q : VK), (∀ a dx H', Same H H' → H' a = some (mdO C dx z) → Q (.ref a) H') → t σ H Q
theorem md_make {K : PySem.W.Frag} {C : Addr} {σ : L2.St} {z : Str} {n : Int} {i : Nat} (hi : σ[i]? = some (some (.str z))) (hz : rkS z = some n) :
    MdR C (tMake C (spModeQ K C) [] E0 (tCons (tVar i) tNil)) σ z n := by
  refine ⟨hz, fun H Q h => ⟨_, hi, fun x dx nx nd ne => ⟨x, dx, z, n, rfl, upd_same, hz, rfl, ?_⟩⟩⟩
  rw [upd_upd]
  exact h x dx _ (same_two nd nx ne) upd_same
theorem md_or {C : Addr} {tA tB : TE} {σ : L2.St} {z z' : Str} {n n' : Int} (A : MdR C tA σ z n) (B : MdR C tB σ z' n') :
    MdR C (tOp (rOwnOr C (spOr C)) tA tB) σ (if n < n' then z' else z) (if n < n' then n' else n) := by
  obtain ⟨hz, hA⟩ := A
  obtain ⟨hz', hB⟩ := B
  refine ⟨by split <;> assumption, fun H Q h => hA H _ fun a dx H1 s1 ha => hB H1 _ fun b dy H2 s2 hb => ?_⟩
  refine ⟨a, dx, _, b, dy, _, rfl, s2 _ _ ha, rfl, hb, a, dx, z, n, b, dy, z', n', rfl, s2 _ _ ha, hb, hz, hz', ?_⟩
  dsimp only
  by_cases e : n < n'
  · simp only [e, if_true] at h ⊢
    exact ⟨⟨b, rfl⟩, h b dy H2 (s1.trans s2) hb⟩
  · simp only [e, if_false] at h ⊢
    exact ⟨⟨a, rfl⟩, h a dx H2 (s1.trans s2) (s2 _ _ ha)⟩
theorem asg_md {C : Addr} {te : TE} {B : TS} {D : Ends} {σ : L2.St} {H : Hp} {i : Nat} {z : Str} {n : Int} (M : MdR C te σ z n)
    (h : ∀ a dx H', Same H H' → H' a = some (mdO C dx z) → B D (σ.set i (some (.ref a))) H') : tSeq (tAsg te (gName i)) B D σ H :=
  M.2 H _ fun a dx H' s e => h a dx H' s e
theorem rk_inj {z z' : Str} {n : Int} (h : rkS z = some n) (h' : rkS z' = some n) : z = z' := by
  rcases rk_word (d := .str z) h with q | q | q | q <;> rcases rk_word (d := .str z') h' with q' | q' | q' | q' <;> (cases q; cases q') <;> rfl
theorem rk_ix {z : Str} {m : Int} (h : rkS z = some (m + 1)) : atI rkV m = some (V.str z) := by
  rcases rk_word (d := .str z) h with q | q | q | q
  all_goals (obtain ⟨q1, q2⟩ := Prod.mk.inj q; cases q1)
  · have e : m = (0 : Nat) := by omega
    subst e; exact atI_nat (xs := rkV) (j := 0) rfl
  · have e : m = (1 : Nat) := by omega
    subst e; exact atI_nat (xs := rkV) (j := 1) rfl
  · have e : m = (2 : Nat) := by omega
    subst e; exact atI_nat (xs := rkV) (j := 2) rfl
  · have e : m = (3 : Nat) := by omega
    subst e; exact atI_nat (xs := rkV) (j := 3) rfl
end Rm

set_option maxRecDepth 100000
set_option maxHeartbeats 4000000
namespace Rm
open PySem PySem.Spec L2
open PyProof.Rows hiding St

/-! ### the strongest of drawn words -/
theorem fold_none : ∀ (ws : List (Str × Int)) (b : Option (Str × Int)), ws.foldl better b = none → b = none ∧ ws = []
  | [], b, h => ⟨h, rfl⟩
  | x :: r, b, h => by
    have h2 := (fold_none r (better b x) h).1
    cases b with
    | none => cases h2
    | some q =>
      simp only [better] at h2
      split at h2 <;> cases h2
theorem fold_some : ∀ (ws : List (Str × Int)) (b : Option (Str × Int)) (p : Str × Int), ws.foldl better b = some p →
    (p ∈ ws ∨ b = some p) ∧ (∀ q ∈ ws, q.2 ≤ p.2) ∧ ∀ q, b = some q → q.2 ≤ p.2
  | [], b, p, h => by
    have h : b = some p := h
    refine ⟨.inr h, fun _ z => (by cases z), fun q e => ?_⟩
    rw [e] at h
    cases h
    exact Int.le_refl _
  | x :: r, b, p, h => by
    obtain ⟨h1, h2, h3⟩ := fold_some r (better b x) p h
    cases b with
    | none =>
      have hx := h3 x rfl
      refine ⟨.inl ?_, fun q hq => ?_, fun q e => (by cases e)⟩
      · rcases h1 with h1 | h1
        · exact List.mem_cons_of_mem _ h1
        · cases h1; exact List.mem_cons_self ..
      · rcases List.mem_cons.mp hq with e | hq
        · rw [e]; exact hx
        · exact h2 q hq
    | some y =>
      simp only [better] at h1 h3
      by_cases c : x.2 > y.2
      · rw [if_pos c] at h1 h3
        have hx := h3 x rfl
        refine ⟨.inl ?_, fun q hq => ?_, fun q e => ?_⟩
        · rcases h1 with h1 | h1
          · exact List.mem_cons_of_mem _ h1
          · cases h1; exact List.mem_cons_self ..
        · rcases List.mem_cons.mp hq with e | hq
          · rw [e]; exact hx
          · exact h2 q hq
        · cases e; omega
      · rw [if_neg c] at h1 h3
        have hy := h3 y rfl
        refine ⟨?_, fun q hq => ?_, fun q e => ?_⟩
        · rcases h1 with h1 | h1
          · exact .inl (List.mem_cons_of_mem _ h1)
          · exact .inr h1
        · rcases List.mem_cons.mp hq with e | hq
          · rw [e]; omega
          · exact h2 q hq
        · cases e; exact hy
theorem best_cases (ws : List (Str × Int)) : (ws = [] ∧ bestV ws = .non) ∨ ∃ p ∈ ws, bestL ws = some p ∧ bestV ws = .str p.1 ∧ ∀ q ∈ ws, q.2 ≤ p.2 := by
  cases h : bestL ws with
  | none => exact .inl ⟨(fold_none ws none h).2, by unfold bestV; rw [h]⟩
  | some p =>
    obtain ⟨h1, h2, _⟩ := fold_some ws none p h
    rcases h1 with h1 | h1
    · exact .inr ⟨p, h1, rfl, by unfold bestV; rw [h], h2⟩
    · cases h1
theorem best_rev {ws : List (Str × Int)} (hw : ∀ p ∈ ws, rkS p.1 = some p.2) : bestV ws.reverse = bestV ws := by
  rcases best_cases ws with ⟨e, h⟩ | ⟨p, hp, _, h, hm⟩
  · subst e; rfl
  · rcases best_cases ws.reverse with ⟨e, h'⟩ | ⟨p', hp', _, h', hm'⟩
    · have := List.reverse_eq_nil_iff.mp e
      subst this
      cases hp
    · rw [h, h']
      have a := hm p' (List.mem_reverse.mp hp')
      have b := hm' p (List.mem_reverse.mpr hp)
      have r1 := hw p hp
      have r2 := hw p' (List.mem_reverse.mp hp')
      have e : p.2 = p'.2 := by omega
      rw [e] at r1
      rw [rk_inj r1 r2]
def strV (ws : List (Str × Int)) : List V := ws.map fun p => V.str p.1
theorem in_yes {ws : List (Str × Int)} {p : Str × Int} (h : p ∈ ws) : inV (.str p.1) (strV ws) = true := by
  unfold inV strV
  rw [List.any_eq_true]
  exact ⟨.str p.1, List.mem_map.mpr ⟨p, h, rfl⟩, by simp [eqV]⟩
theorem in_no {ws : List (Str × Int)} {z : Str} (h : ∀ q ∈ ws, q.1 ≠ z) : inV (.str z) (strV ws) = false := by
  unfold inV strV
  rw [List.any_eq_false]
  intro v hv
  obtain ⟨q, hq, rfl⟩ := List.mem_map.mp hv
  simp [eqV]
  exact h q hq
def dueStep (xs : List V) (d g : V) : V := if inV g xs = true then g else d
def dueOf (gs xs : List V) : V := gs.foldl (dueStep xs) .non
theorem due_next {xs : List V} {i : Nat} {x : V} (e : rkV[i]? = some x) : dueOf (rkV.take (i + 1)) xs = dueStep xs (dueOf (rkV.take i) xs) x := by
  unfold dueOf
  rw [List.take_succ, e, List.foldl_append]
  rfl
theorem due_best {ws : List (Str × Int)} (hw : ∀ p ∈ ws, rkS p.1 = some p.2) : dueOf rkV (strV ws) = bestV ws := by
  show dueStep (strV ws) (dueStep (strV ws) (dueStep (strV ws) (dueStep (strV ws) .non (.str "hold")) (.str "keep")) (.str "change")) (.str "replace") = _
  rcases best_cases ws with ⟨e, h⟩ | ⟨p, hp, _, h, hm⟩
  · subst e; rw [h]; rfl
  · rw [h]
    have hi := in_yes hp
    have no : ∀ {z : Str} {n : Int}, rkS z = some n → p.2 < n → inV (.str z) (strV ws) = false := fun {z n} hz hn => in_no fun q hq e => by
      have r := hw q hq
      rw [e, hz] at r
      have := hm q hq
      cases r
      omega
    obtain ⟨w, n⟩ := p
    rcases rk_word (d := .str w) (hw _ hp) with e | e | e | e <;> cases e
    · unfold dueStep
      rw [no (z := "replace") (n := 4) rfl (by show (1 : Int) < 4; decide), no (z := "change") (n := 3) rfl (by show (1 : Int) < 3; decide), no (z := "keep") (n := 2) rfl (by show (1 : Int) < 2; decide)]
      rw [show inV (.str "hold") (strV ws) = true from hi]
      rfl
    · unfold dueStep
      rw [no (z := "replace") (n := 4) rfl (by show (2 : Int) < 4; decide), no (z := "change") (n := 3) rfl (by show (2 : Int) < 3; decide)]
      rw [show inV (.str "keep") (strV ws) = true from hi]
      rfl
    · unfold dueStep
      rw [no (z := "replace") (n := 4) rfl (by show (3 : Int) < 4; decide)]
      rw [show inV (.str "change") (strV ws) = true from hi]
      rfl
    · unfold dueStep
      rw [show inV (.str "replace") (strV ws) = true from hi]
      rfl
def bestD (ws : List (Str × Int)) : PyData := match bestL ws with
  | none => .none
  | some p => .str p.1
theorem best_dx {K : PySem.W.Frag} {H : Hp} (ws : List (Str × Int)) : Dx K H (bestV ws) (bestD ws) := by
  unfold bestV bestD
  cases bestL ws with
  | none => exact .non
  | some p => exact .str _
theorem best_sm {ws : List (Str × Int)} (hw : ∀ p ∈ ws, rkS p.1 = some p.2) : Sm (bestD ws) := by
  rcases best_cases ws with ⟨e, h⟩ | ⟨p, hp, h, _, _⟩
  · subst e; exact Sm.of (by decide +kernel)
  · unfold bestD
    rw [h]
    rcases rk_word (d := .str p.1) (hw _ hp) with e | e | e | e <;> (obtain ⟨e1, _⟩ := Prod.mk.inj e; show Sm (.str p.1); rw [e1]; exact Sm.of (by decide +kernel))
def strD (ws : List (Str × Int)) : PyData := .list (ws.map fun p => .str p.1)
theorem str_all {K : PySem.W.Frag} {H : Hp} : ∀ ws : List (Str × Int), DpAll K H (strV ws) (ws.map fun p => .str p.1)
  | [] => .nil
  | p :: r => .cons (.str _) (str_all r)
theorem str_lay : ∀ {ws : List (Str × Int)}, (∀ p ∈ ws, rkS p.1 = some p.2) → PyData.canLayAll0 (ws.map fun p => PyData.str p.1) = true ∧ PyData.depthAll (ws.map fun p => PyData.str p.1) = 0
  | [], _ => ⟨by simp [PyData.canLayAll0], by simp [PyData.depthAll]⟩
  | p :: r, h => by
    obtain ⟨h1, h2⟩ := str_lay (ws := r) fun q hq => h q (List.mem_cons_of_mem _ hq)
    have hp : PyData.canLay0 (.str p.1) = true := by
      rcases rk_word (d := .str p.1) (h p (List.mem_cons_self ..)) with e | e | e | e <;> (obtain ⟨e1, _⟩ := Prod.mk.inj e; rw [e1]; decide +kernel)
    refine ⟨?_, ?_⟩
    · simp only [List.map_cons, PyData.canLayAll0, hp, h1, Bool.true_and]
    · simp only [List.map_cons, PyData.depthAll, PyData.depth, h2, Nat.max_self]
theorem str_shaped {ws : List (Str × Int)} (h : ∀ p ∈ ws, rkS p.1 = some p.2) : SeqAt.shaped (strD ws) = true := by
  obtain ⟨h1, h2⟩ := str_lay h
  unfold SeqAt.shaped strD
  simp only [PyData.canLay0, PyData.depth, h1, h2]
  decide
theorem pool_at {k : Int} (h0 : 0 ≤ k) (h1 : k < 4) : 1 ≤ (cutV rkV none (some (1 + k))).length ∧ (cutV rkV none (some (1 + k))).length ≤ 4 ∧
    ∀ (i : Nat) (v : V), (cutV rkV none (some (1 + k)))[i]? = some v → ∃ z n, v = V.str z ∧ rkS z = some n := by
  refine ⟨?_, Nat.le_trans (cutV_length _ _ _) (by decide), fun i v h => ?_⟩
  · have : k = 0 ∨ k = 1 ∨ k = 2 ∨ k = 3 := by omega
    rcases this with e | e | e | e <;> (subst e; decide +kernel)
  · have m := List.mem_of_getElem? h
    unfold cutV at m
    have m2 := List.mem_of_mem_drop (List.mem_of_mem_take m)
    obtain ⟨j, hj, e⟩ := List.getElem_of_mem m2
    exact rk_str (i := j) (by rw [← e]; exact List.getElem?_eq_getElem hj)
end Rm

set_option maxRecDepth 100000
set_option maxHeartbeats 4000000
namespace K02
open PySem PySem.Spec L2 Rm
open PyProof.Rows hiding St
def top (i : Nat) : Stmt := PySem.Challenge.pw_rowmarks_k02_modes_compared.main.body.getD i (.Pass ⟨0, 0, 0, 0⟩)
abbrev s_BadMode___init__ : Stmt := inClass (top 2) 0
abbrev s_is_mode : Stmt := top 6
abbrev s_rank_of : Stmt := top 7
abbrev s_clash : Stmt := top 8
abbrev s_Mode___init__ : Stmt := inClass (top 9) 0
abbrev s_Mode_word : Stmt := inClass (top 9) 1
abbrev s_Mode_rank : Stmt := inClass (top 9) 2
abbrev s_Mode_is_weaker : Stmt := inClass (top 9) 3
abbrev s_Mode_clashes : Stmt := inClass (top 9) 4
abbrev s_Mode___or__ : Stmt := inClass (top 9) 5
abbrev s_Mode___eq__ : Stmt := inClass (top 9) 6
abbrev s_Mode_strongest : Stmt := inClass (top 9) 7
abbrev s__law_tape : Stmt := top 11
abbrev s__law_pick : Stmt := top 12
abbrev s__law_one_of : Stmt := top 13
abbrev s__law_pairs_right : Stmt := top 14
abbrev s__law_triples_right : Stmt := top 15
abbrev s_law : Stmt := top 16
/-- the names that are built-in still -/
structure Bl (mg : Str → Option Value) : Prop where
  n_int : mg "int" = none
  n_len : mg "len" = none
  n_isinstance : mg "isinstance" = none
  n_str : mg "str" = none
  n_range : mg "range" = none
  n_max : mg "max" = none
  n_min : mg "min" = none
  n_list : mg "list" = none
  n_repr : mg "repr" = none
  n_enumerate : mg "enumerate" = none
section
variable {P : Program} {w : World} {K : PySem.W.Frag} {mg : Str → Option Value} {base : Heap}
theorem sc__law_pick : FnScope ["_law_tape_here", "_law_many", "_law_found", "_law_once"] ["_law_tape_here", "_law_many"] (defScope s__law_pick) :=
  ⟨rfl, rfl, rfl, by decide +kernel, rfl, by decide +kernel, by decide +kernel⟩
theorem ok_pick {f : Addr} {fd : FuncData} (F : Fun K "_law_pick" "_law_pick" s__law_pick f fd) (B : Bl mg) :
    FnG P w K mg base CX0 1 f fd ["_law_tape_here", "_law_many"] spPick := by
  refine fn_q F sc__law_pick (fun vs H Q E h => ?_) (fun cdv A outer s H vs Q E hr hG h => ?_)
  · obtain ⟨t, o, n, rfl, _⟩ := h
    rfl
  · obtain ⟨t, o, n, rfl, ht, ⟨dg, mx, rfl, ok⟩, h1, h2, k⟩ := h
    have hu := hu_of hr
    obtain ⟨hd0, hm0, hm1⟩ := ok
    refine ⟨_, (pss_cons (ps_if (pt_cmpR op_ge (pe_dget hu (pv 0) pe_str (fun _ _ => rfl)) (pv 1) (nomark _)) (pss_cons (ps_set (i := 2) sc__law_pick.nd rfl (Or.inl rfl) (pe_op op_modN (pe_callTy call_int1 (by rfl) B.n_int (by decide +kernel) (pa_cons (pe_dget hu (pv 0) pe_str (fun _ _ => rfl)) pa_nil)) (pv 1)))
      (pss_cons (ps_dput hu (pv 0) pe_str (pe_op op_fdivN (pe_dget hu (pv 0) pe_str (fun _ _ => rfl)) (pv 1)) rfl)
      (pss_one (ps_ret (pv 2))))) pss_nil)
      (pss_cons (ps_dput hu (pv 0) pe_str (pe_op op_mod (pe_callTy call_int1 (by rfl) B.n_int (by decide +kernel) (pa_cons (pe_op op_add (pe_op op_mulX (pe_dget hu (pv 0) pe_str (fun _ _ => rfl)) pe_int) pe_int) pa_nil)) pe_int) rfl)
      (pss_cons (ps_set (i := 3) sc__law_pick.nd rfl (Or.inl rfl) (pe_op op_mod (pe_callTy call_int1 (by rfl) B.n_int (by decide +kernel) (pa_cons (pe_op op_powX (pe_dget hu (pv 0) pe_str (fun _ _ => rfl)) pe_int) pa_nil)) pe_int))
      (pss_one (ps_ret (pe_op op_modN (pe_callTy call_int1 (by rfl) B.n_int (by decide +kernel) (pa_cons (pe_op op_fdiv (pe_op op_mod (pe_callTy call_int1 (by rfl) B.n_int (by decide +kernel) (pa_cons (pe_op op_powX (pv 3) pe_int) pa_nil)) pe_int) pe_int) pa_nil)) (pv 1))))))), ?_⟩
    refine ⟨_, rfl, _, _, rfl, tape_dg ht, _, rfl, _, _, rfl, rfl, _, rfl, ite2 (fun c => ?_) fun c => ?_⟩
    · have hn : n ≠ 0 := by omega
      refine ⟨_, rfl, _, _, rfl, tape_dg ht, .inl ⟨_, rfl, _, rfl, _, _, rfl, rfl, hn, ?_⟩⟩
      refine ⟨_, rfl, _, _, rfl, tape_dg ht, _, rfl, _, _, rfl, rfl, ⟨hn, by omega⟩, _, rfl, _, _, rfl, tape_pd ht, ?_⟩
      refine ⟨_, rfl, k _ _ ?_ ?_ ⟨_, _, rfl, ?_, hm0, hm1⟩⟩
      · exact Int.fmod_nonneg_of_pos _ (by omega)
      · exact Int.fmod_lt_of_pos _ (by omega)
      · exact Int.fdiv_nonneg hd0 (by omega)
    · have e1 : CMulX mx 40014 := mulx_ok (a := 32) (b := 32) (by omega) (by decide) (by decide)
      refine ⟨_, rfl, _, _, rfl, tape_mx ht, _, _, rfl, rfl, e1, _, _, rfl, rfl, .inl ⟨_, rfl, _, _, rfl, rfl, ?_, _, rfl, _, _, rfl, tape_pm ht, ?_⟩⟩
      · show (0 : Int) < 2147483563
        decide
      have m0 : 0 ≤ (mx * 40014 + 1017) % 2147483563 := Int.emod_nonneg _ (by decide)
      have m1 : (mx * 40014 + 1017) % 2147483563 < 2147483563 := Int.emod_lt_of_pos _ (by decide)
      have o0 : 0 ≤ ((mx * 40014 + 1017) % 2147483563) ^ (2 : Int).toNat % 2147483399 := Int.emod_nonneg _ (by decide)
      have o1 : ((mx * 40014 + 1017) % 2147483563) ^ (2 : Int).toNat % 2147483399 < 2147483399 := Int.emod_lt_of_pos _ (by decide)
      refine ⟨_, rfl, _, _, rfl, tape_mx upd_same, _, _, rfl, rfl, pow32 m0 (by omega) (by decide) (by decide), .inl ⟨_, rfl, _, _, rfl, rfl, ?_, ?_⟩⟩
      · show (0 : Int) < 2147483399
        decide
      refine ⟨_, rfl, _, _, rfl, rfl, pow32 o0 (by omega) (by decide) (by decide), .inl ⟨_, rfl, _, _, rfl, rfl, ?_, _, _, rfl, rfl, ?_, .inl ⟨_, rfl, _, rfl, _, _, rfl, rfl, (show n ≠ 0 by omega), ?_⟩⟩⟩
      · show (0 : Int) < 998244353
        decide
      · exact ⟨by decide, by decide⟩
      exact k _ _ (Int.fmod_nonneg_of_pos _ (by omega)) (Int.fmod_lt_of_pos _ (by omega)) ⟨_, _, rfl, hd0, m0, by omega⟩
theorem sc__law_one_of : FnScope ["_law_tape_here", "_law_items"] ["_law_tape_here", "_law_items"] (defScope s__law_one_of) :=
  ⟨rfl, rfl, rfl, by decide +kernel, rfl, by decide +kernel, by decide +kernel⟩
theorem ok_one {f : Addr} {fd : FuncData} (F : Fun K "_law_one_of" "_law_one_of" s__law_one_of f fd) (B : Bl mg)
    (D__law_pick : Ce P w K mg base CX0 1 "_law_pick" ["_law_tape_here", "_law_many"] spPick) :
    FnG P w K mg base CX0 2 f fd ["_law_tape_here", "_law_items"] (spOne K) := by
  refine fn_q F sc__law_one_of (fun vs H Q E h => ?_) (fun cdv A outer s H vs Q E hr hG h => ?_)
  · obtain ⟨t, l, o, xs, rfl, _⟩ := h
    rfl
  · obtain ⟨t, l, o, xs, rfl, ht, ho, hl, h1, h2, k⟩ := h
    have hu := hu_of hr
    refine ⟨_, (pss_one (ps_ret (pe_ix ix_list (pv 1) (pe_ce D__law_pick (hr.mono (by decide)) hG (pa_cons (pv 0) (pa_cons (pe_callB call_len_seq (by rfl) B.n_len (by decide +kernel) (pa_cons (pv 1) pa_nil)) pa_nil)) pass0) (fun _ _ => rfl)))), ?_⟩
    refine ⟨_, rfl, _, rfl, _, rfl, _, _, rfl, .inl hl, t, o, _, rfl, ht, ho, by omega, by omega, fun n o' n0 n1 ho' => ?_⟩
    have hb : n.toNat < xs.length := by omega
    refine ⟨_, _, _, _, rfl, rfl, sq_tape hl ht ho, ?_, k n.toNat _ _ (List.getElem?_eq_getElem hb) ho'⟩
    have e := atI_nat (xs := xs) (j := n.toNat) (v := xs[n.toNat]) (List.getElem?_eq_getElem hb)
    rw [Int.toNat_of_nonneg n0] at e
    exact e
theorem sc__law_tape : FnScope ["_law_script", "_law_start", "_law_mixed", "_law_cell", "_law_digits"] ["_law_script", "_law_start"] (defScope s__law_tape) :=
  ⟨rfl, rfl, rfl, by decide +kernel, rfl, by decide +kernel, by decide +kernel⟩
theorem ok_tape {f : Addr} {fd : FuncData} (F : Fun K "_law_tape" "_law_tape" s__law_tape f fd) (B : Bl mg) :
    FnG P w K mg base CX0 1 f fd ["_law_script", "_law_start"] (spTape K) := by
  refine fn_q F sc__law_tape (fun vs H Q E h => ?_) (fun cdv A outer s H vs Q E hr hG h => ?_)
  · obtain ⟨a, ns, z, rfl, _⟩ := h
    rfl
  · obtain ⟨a, ns, z, rfl, hl, hn, hbits, z0, z1, k⟩ := h
    have hu := hu_of hr
    refine ⟨_, (pss_cons (ps_set (i := 2) sc__law_tape.nd rfl (Or.inl rfl) (pe_op op_add pe_int (pe_op op_mulX (pv 1) pe_int)))
      (pss_cons (ps_for PassesOwn.never rfl (pi_list (pv 0)) (pg_name (i := 3) sc__law_tape.nd rfl (Or.inl rfl)) (pss_one (ps_set (i := 2) sc__law_tape.nd rfl (Or.inl rfl) (pe_op op_add (pe_op op_mod (pe_callTy call_int1 (by rfl) B.n_int (by decide +kernel) (pa_cons (pe_op op_powX (pe_op op_add (pe_op op_add (pe_op op_mulX (pv 2) pe_int) (pe_op op_mulX (pv 3) (pv 3))) pe_int) pe_int) pa_nil)) pe_int) pe_int))))
      (pss_cons (ps_set (i := 4) sc__law_tape.nd rfl (Or.inl rfl) (pe_ifExp (PW.pt (pw_and (pt_cmpR op_lt (pv 1) (pe_callB call_len_seq (by rfl) B.n_len (by decide +kernel) (pa_cons (pv 0) pa_nil)) (nomark _)) (pw_and1 (pt_cmpR op_ge (pe_ix ix_list (pv 0) (pv 1) (fun _ _ => rfl)) (pe_op op_powX pe_int pe_int) (nomark _))))) (pe_op op_sub (pe_ix ix_list (pv 0) (pv 1) (fun _ _ => rfl)) (pe_op op_powX pe_int pe_int)) pe_int))
      (pss_one (ps_ret (pe_disp (pps_cons pe_str (pv 4) (pps_cons pe_str (pv 2) pps_nil)) (by rfl) (by rfl) (fun z => by cases z) (by decide))))))), ?_⟩
    refine ⟨_, rfl, _, _, rfl, rfl, mulx_ok (a := 32) (b := 32) (by omega) (by decide) (by decide), _, _, rfl, rfl, ?_⟩
    refine ⟨_, rfl, a, rfl, ⟨_, hl⟩, for_list (xs := ns.map V.int) (fun i σ H' => H' = H ∧ ∃ m c, σ = [some (.ref a), some (.int z), some (.int m), c, none] ∧ 0 ≤ m ∧ m < 4294967296) ⟨rfl, _, _, rfl, by omega, by omega⟩ (fun i σ H' hi e => by rw [e.1]; exact hl) ?_ ?_⟩
    · rintro i x σ H' hx ⟨rfl, m, c, rfl, m0, m1⟩
      obtain ⟨y, hy, rfl⟩ : ∃ y, y ∈ ns ∧ x = V.int y := by
        rw [List.getElem?_map] at hx
        cases e : ns[i]? with
        | none => rw [e] at hx; cases hx
        | some y => rw [e] at hx; cases hx; exact ⟨y, List.mem_of_getElem? e, rfl⟩
      obtain ⟨c1, c2, c3⟩ := mix_pow m0 m1 (hbits y hy)
      refine ⟨_, rfl, _, _, rfl, rfl, c1, _, rfl, _, rfl, _, _, rfl, rfl, c2, _, _, rfl, rfl, _, _, rfl, rfl, _, _, rfl, rfl, c3, .inl ⟨_, rfl, _, _, rfl, rfl, ?_, _, _, rfl, rfl, rfl, _, _, rfl, ?_, ?_⟩⟩
      · show (0 : Int) < 2147483563
        decide
      · have := Int.emod_nonneg ((m * 30013 + y * y + 11) ^ (2 : Int).toNat) (show (2147483563 : Int) ≠ 0 by decide)
        omega
      · have := Int.emod_lt_of_pos ((m * 30013 + y * y + 11) ^ (2 : Int).toNat) (show (0 : Int) < 2147483563 by decide)
        omega
    · rintro σ H' ⟨rfl, m, c, rfl, m0, m1⟩
      have fin : ∀ d : Int, 0 ≤ d → ∀ p, H' p = none → Q (.ref p) (upd (upd H' p (.dK [])) p (tapeO d m)) := fun d d0 p hp => by
        rw [upd_upd]
        exact k p _ hp ⟨d, m, rfl, d0, m0, m1⟩
      have ends : ∀ d : Int, 0 ≤ d → (tRet (tDisp [((tC (V.str "digits")), tVar 4), ((tC (V.str "mixed")), tVar 2)])) { nx := fun _ H' => Q .non H', rt := Q } [some (.ref a), some (.int z), some (.int m), c, some (.int d)] H' := fun d d0 p hp => by
        have e : mergeK [] [((Sum.inr "digits" : Key), V.int d), (Sum.inr "mixed", V.int m)] = [((Sum.inr "digits" : Key), V.int d), (Sum.inr "mixed", V.int m)] := by
          simp [mergeK, putK, s_dm]
        refine ⟨_, rfl, _, rfl, upd_same, [(Sum.inr "digits", V.int d), (Sum.inr "mixed", V.int m)], rfl, by show 2 ≤ 15; decide, ?_⟩
        rw [e]
        exact fin d d0 p hp
      refine ⟨_, rfl, _, rfl, _, _, rfl, .inl hl, _, _, rfl, rfl, _, rfl, ite2 (fun c => ?_) fun c => ?_⟩
      · rw [List.length_map] at c
        have hb : z.toNat < ns.length := by
          have := of_decide_eq_true c
          omega
        have at_ : atI (ns.map V.int) z = some (V.int ns[z.toNat]) := by
          have e := atI_nat (xs := ns.map V.int) (j := z.toNat) (v := V.int ns[z.toNat]) (by rw [List.getElem?_map, List.getElem?_eq_getElem hb]; rfl)
          rw [Int.toNat_of_nonneg z0] at e
          exact e
        have p18 : CPowX 10 18 := pow32 (by decide) (by decide) (by decide) (by decide)
        refine ⟨_, rfl, _, rfl, _, _, _, _, rfl, rfl, hl, at_, _, _, rfl, rfl, p18, _, _, rfl, rfl, _, rfl, ite2 (fun c => ?_) fun c => ?_⟩
        · refine ⟨_, rfl, _, rfl, _, _, _, _, rfl, rfl, hl, at_, _, _, rfl, rfl, p18, _, _, rfl, rfl, ends _ ?_⟩
          have := of_decide_eq_true c
          omega
        · exact ends 0 (by decide)
      · exact ends 0 (by decide)
theorem sc_is_mode : FnScope ["value"] ["value"] (defScope s_is_mode) :=
  ⟨rfl, rfl, rfl, by decide +kernel, rfl, by decide +kernel, by decide +kernel⟩
theorem ok_is {f R : Addr} {fd : FuncData} (F : Fun K "is_mode" "is_mode" s_is_mode f fd) (B : Bl mg) (RK : Rk w K mg R) :
    FnG P w K mg base CX0 1 f fd ["value"] (spIs K) := by
  obtain ⟨es, n, KD⟩ := RK.kd
  refine fn_q F sc_is_mode (fun vs H Q E h => ?_) (fun cdv A outer s H vs Q E hr hG h => ?_)
  · obtain ⟨x, d, rfl, _⟩ := h
    rfl
  · obtain ⟨x, d, rfl, hx, q⟩ := h
    have hu := hu_of hr
    refine ⟨_, (pss_one (ps_ret (pe_and (pe_callB call_isi (by rfl) B.n_isinstance (by decide +kernel) (pa_cons (pv 0) (pa_cons (pe_bltn (v := .ty "str") (u := .type "str") (by rfl) B.n_str (by decide +kernel) rfl) pa_nil))) (pe_one (pe_cmpR (op_in_kd KD) (pv 0) (pe_glob (v := .ref R) (by rfl) RK.g rfl) (by rfl)))))), ?_⟩
    refine ⟨x, rfl, ?_⟩
    refine ⟨x, .ty "str", _, _, _, rfl, .ty _, hx.tyx, kit_str d, ?_⟩
    cases d with
    | str z =>
      cases hx
      refine ⟨true, rfl, ?_⟩
      cases hz : rkS z with
      | none => exact ⟨_, rfl, z, _, rfl, rfl, RK.no _ hz, by simpa [rkD, hz] using q⟩
      | some i =>
        obtain ⟨t, e⟩ := RK.yes _ _ hz
        exact ⟨_, rfl, z, _, rfl, rfl, e, by simpa [rkD, hz] using q⟩
    | _ => exact ⟨false, rfl, q⟩
theorem sc_rank_of : FnScope ["word"] ["word"] (defScope s_rank_of) :=
  ⟨rfl, rfl, rfl, by decide +kernel, rfl, by decide +kernel, by decide +kernel⟩
theorem ok_rank {f R : Addr} {fd : FuncData} (F : Fun K "rank_of" "rank_of" s_rank_of f fd) (RK : Rk w K mg R) :
    FnG P w K mg base CX0 1 f fd ["word"] spRank := by
  obtain ⟨es, n, KD⟩ := RK.kd
  refine fn_q F sc_rank_of (fun vs H Q E h => ?_) (fun cdv A outer s H vs Q E hr hG h => ?_)
  · obtain ⟨x, d, rfl, _⟩ := h
    rfl
  · obtain ⟨z, i, rfl, hz, q⟩ := h
    have hu := hu_of hr
    refine ⟨_, (pss_one (ps_ret (pe_ix ix_kdict (pe_glob (v := .ref R) (by rfl) RK.g rfl) (pv 0) (fun _ _ => rfl)))), ?_⟩
    obtain ⟨t, e⟩ := RK.yes _ _ hz
    refine ⟨_, rfl, R, z, .int i, rfl, rfl, ⟨es, n, _, KD.at_, KD.lit, e, ⟨t, rfl⟩⟩, q⟩
def spClash : Sp := fun vs H Q _ => ∃ z i z' j, vs = [.str z, .str z'] ∧ rkS z = some i ∧ rkS z' = some j ∧ Q (.bl (decide (i + j ≥ 5))) H
theorem sc_clash : FnScope ["word", "other"] ["word", "other"] (defScope s_clash) :=
  ⟨rfl, rfl, rfl, by decide +kernel, rfl, by decide +kernel, by decide +kernel⟩
theorem ok_clash {f R : Addr} {fd : FuncData} {tc : Tok} (F : Fun K "clash" "clash" s_clash f fd) (RK : Rk w K mg R) (g_CLASH : mg "CLASH" = some (.int 5 tc)) :
    FnG P w K mg base CX0 1 f fd ["word", "other"] spClash := by
  obtain ⟨es, n, KD⟩ := RK.kd
  refine fn_q F sc_clash (fun vs H Q E h => ?_) (fun cdv A outer s H vs Q E hr hG h => ?_)
  · obtain ⟨z, i, z', j, rfl, _⟩ := h
    rfl
  · obtain ⟨z, i, z', j, rfl, hz, hz', q⟩ := h
    have hu := hu_of hr
    refine ⟨_, (pss_one (ps_ret (pe_cmpR op_ge (pe_op op_add (pe_ix ix_kdict (pe_glob (v := .ref R) (by rfl) RK.g rfl) (pv 0) (fun _ _ => rfl)) (pe_ix ix_kdict (pe_glob (v := .ref R) (by rfl) RK.g rfl) (pv 1) (fun _ _ => rfl))) (pe_glob (v := .int 5) (by rfl) g_CLASH ⟨_, rfl⟩) (nomark _)))), ?_⟩
    obtain ⟨t, e⟩ := RK.yes _ _ hz
    obtain ⟨t', e'⟩ := RK.yes _ _ hz'
    exact ⟨_, rfl, R, z, .int i, rfl, rfl, ⟨es, n, _, KD.at_, KD.lit, e, ⟨t, rfl⟩⟩, _, rfl, R, z', .int j, rfl, rfl, ⟨es, n, _, KD.at_, KD.lit, e', ⟨t', rfl⟩⟩, _, _, rfl, rfl, _, _, rfl, rfl, q⟩
/-- what the class Mode has -/
structure MdC (K : PySem.W.Frag) (C : Addr) : Prop where
  oc : OwnC K C
  nw : NoAttr K C "_word"
theorem sc_Mode___init__ : FnScope ["self", "word"] ["self", "word"] (defScope s_Mode___init__) :=
  ⟨rfl, rfl, rfl, by decide +kernel, rfl, by decide +kernel, by decide +kernel⟩
theorem ok_newQ {f CM : Addr} {fd : FuncData} (F : Fun K "__init__" "Mode.__init__" s_Mode___init__ f fd) (MC : MdC K CM)
    (D_is_mode : Ce P w K mg base CX0 1 "is_mode" ["value"] (spIs K)) :
    FnG P w K mg base CX0 2 f fd ["self", "word"] (spModeQ K CM) := by
  refine fn_q F sc_Mode___init__ (fun vs H Q E h => ?_) (fun cdv A outer s H vs Q E hr hG h => ?_)
  · obtain ⟨a, dx, x, d, rfl, _⟩ := h
    rfl
  · obtain ⟨a, dx, z, i, rfl, ha, hz, q⟩ := h
    have hu := hu_of hr
    refine ⟨_, (pss_cons (ps_if (pt_not (pt_val (pe_ce D_is_mode (hr.mono (by decide)) hG (pa_cons (pv 1) pa_nil) pass0))) pss_never pss_nil)
      (pss_one (ps_fld (pv 0) (pv 1) rfl))), ?_⟩
    refine ⟨_, rfl, _, _, rfl, .str z, _, rfl, ?_⟩
    rw [show rkD (.str z) = some i from hz]
    exact ⟨_, rfl, _, rfl, _, _, _, _, rfl, ha, MC.oc.cls, MC.nw, by decide, q⟩
theorem sc_Mode_word : FnScope ["self"] ["self"] (defScope s_Mode_word) :=
  ⟨rfl, rfl, rfl, by decide +kernel, rfl, by decide +kernel, by decide +kernel⟩
theorem ok_word {f CM : Addr} {fd : FuncData} (F : Fun K "word" "Mode.word" s_Mode_word f fd) (MC : MdC K CM) :
    FnG P w K mg base CX0 1 f fd ["self"] (spWord CM) := by
  refine fn_q F sc_Mode_word (fun vs H Q E h => ?_) (fun cdv A outer s H vs Q E hr hG h => ?_)
  · obtain ⟨a, dx, z, rfl, _⟩ := h
    rfl
  · obtain ⟨a, dx, z, rfl, ha, q⟩ := h
    refine ⟨_, (pss_one (ps_ret (pe_fld (pv 0) rfl))), ?_⟩
    exact ⟨_, rfl, a, _, _, _, _, rfl, ha, MC.oc.cls, MC.nw, rfl, q⟩
theorem sc_Mode_rank : FnScope ["self"] ["self"] (defScope s_Mode_rank) :=
  ⟨rfl, rfl, rfl, by decide +kernel, rfl, by decide +kernel, by decide +kernel⟩
theorem ok_rk {f CM : Addr} {fd : FuncData} (F : Fun K "rank" "Mode.rank" s_Mode_rank f fd) (MC : MdC K CM)
    (D_rank_of : Ce P w K mg base CX0 1 "rank_of" ["word"] spRank) :
    FnG P w K mg base CX0 2 f fd ["self"] (spRk CM) := by
  refine fn_q F sc_Mode_rank (fun vs H Q E h => ?_) (fun cdv A outer s H vs Q E hr hG h => ?_)
  · obtain ⟨a, dx, z, i, rfl, _⟩ := h
    rfl
  · obtain ⟨a, dx, z, i, rfl, ha, hz, q⟩ := h
    refine ⟨_, (pss_one (ps_ret (pe_ce D_rank_of (hr.mono (by decide)) hG (pa_cons (pe_fld (pv 0) rfl) pa_nil) pass0))), ?_⟩
    exact ⟨_, rfl, a, _, _, _, _, rfl, ha, MC.oc.cls, MC.nw, rfl, z, i, rfl, hz, q⟩
theorem sc_Mode___eq__ : FnScope ["self", "other"] ["self", "other"] (defScope s_Mode___eq__) :=
  ⟨rfl, rfl, rfl, by decide +kernel, rfl, by decide +kernel, by decide +kernel⟩
theorem ok_eq {f CM : Addr} {fd : FuncData} (F : Fun K "__eq__" "Mode.__eq__" s_Mode___eq__ f fd) (B : Bl mg) (MC : MdC K CM)
    (g_Mode : mg "Mode" = some (.ref CM)) :
    FnG P w K mg base CX0 1 f fd ["self", "other"] (spEqM K CM) := by
  refine fn_q F sc_Mode___eq__ (fun vs H Q E h => ?_) (fun cdv A outer s H vs Q E hr hG h => ?_)
  · obtain ⟨a, dx, z, y, rfl, _⟩ := h
    rfl
  · obtain ⟨a, dx, z, y, rfl, ha, hy⟩ := h
    have hu := hu_of hr
    refine ⟨_, (pss_one (ps_ret (pe_and (pe_callB call_isi (by rfl) B.n_isinstance (by decide +kernel) (pa_cons (pv 1) (pa_cons (pe_glob (v := .ref CM) (by rfl) g_Mode rfl) pa_nil))) (pe_one (pe_cmpR op_eq (pe_fld (pv 0) rfl) (pe_fld (pv 1) rfl) (nomark _)))))), ?_⟩
    rcases hy with ⟨d, hd, q⟩ | ⟨b, dy, z', rfl, hb, q⟩
    · obtain ⟨x, c, t, u, k, e, k1, k2, k3, k4⟩ := MC.oc.isi_not (Q := fun v H' => v = .bl false ∧ H' = H) hd ⟨rfl, rfl⟩
      cases e
      refine ⟨_, rfl, _, _, t, u, k, rfl, k1, k2, k3, ?_⟩
      cases k4.1
      exact ⟨false, rfl, q⟩
    · obtain ⟨x, c, t, u, k, e, k1, k2, k3, k4⟩ := MC.oc.isi_so (Q := fun v H' => v = .bl true ∧ H' = H) hb ⟨rfl, rfl⟩
      cases e
      refine ⟨_, rfl, _, _, t, u, k, rfl, k1, k2, k3, ?_⟩
      cases k4.1
      refine ⟨true, rfl, _, rfl, a, _, _, _, _, rfl, ha, MC.oc.cls, MC.nw, rfl, _, rfl, b, _, _, _, _, rfl, hb, MC.oc.cls, MC.nw, rfl, ?_⟩
      refine ⟨rfl, ?_⟩
      rw [show decide (V.str z = V.str z') = decide (z = z') by simp]
      exact q
theorem sc_Mode_is_weaker : FnScope ["self", "other"] ["self", "other"] (defScope s_Mode_is_weaker) :=
  ⟨rfl, rfl, rfl, by decide +kernel, rfl, by decide +kernel, by decide +kernel⟩
theorem ok_weaker {f CM : Addr} {fd : FuncData} (F : Fun K "is_weaker" "Mode.is_weaker" s_Mode_is_weaker f fd)
    (P_Mode_rank : Cp P w K mg base CX0 2 CM "rank" (spRk CM)) :
    FnG P w K mg base CX0 4 f fd ["self", "other"] (spWk CM) := by
  refine fn_q F sc_Mode_is_weaker (fun vs H Q E h => ?_) (fun cdv A outer s H vs Q E hr hG h => ?_)
  · obtain ⟨a, dx, z, i, b, dy, z', j, rfl, _⟩ := h
    rfl
  · obtain ⟨a, dx, z, i, b, dy, z', j, rfl, ha, hb, hz, hz', q⟩ := h
    refine ⟨_, (pss_one (ps_ret (pe_cmpR op_lt (pe_cp P_Mode_rank (hr.mono (by decide)) hG (pv 0) pass0) (pe_cp P_Mode_rank (hr.mono (by decide)) hG (pv 1) pass0) (nomark _)))), ?_⟩
    exact ⟨_, rfl, a, dx, _, rfl, ha, a, dx, z, i, rfl, ha, hz, _, rfl, b, dy, _, rfl, hb, b, dy, z', j, rfl, hb, hz', _, _, rfl, rfl, q⟩
theorem sc_Mode_clashes : FnScope ["self", "other"] ["self", "other"] (defScope s_Mode_clashes) :=
  ⟨rfl, rfl, rfl, by decide +kernel, rfl, by decide +kernel, by decide +kernel⟩
theorem ok_clashes {f CM : Addr} {fd : FuncData} (F : Fun K "clashes" "Mode.clashes" s_Mode_clashes f fd)
    (D_clash : Ce P w K mg base CX0 1 "clash" ["word", "other"] spClash) (P_Mode_word : Cp P w K mg base CX0 1 CM "word" (spWord CM)) :
    FnG P w K mg base CX0 4 f fd ["self", "other"] (spCl CM) := by
  refine fn_q F sc_Mode_clashes (fun vs H Q E h => ?_) (fun cdv A outer s H vs Q E hr hG h => ?_)
  · obtain ⟨a, dx, z, i, b, dy, z', j, rfl, _⟩ := h
    rfl
  · obtain ⟨a, dx, z, i, b, dy, z', j, rfl, ha, hb, hz, hz', q⟩ := h
    refine ⟨_, (pss_one (ps_ret (pe_ce D_clash (hr.mono (by decide)) hG (pa_cons (pe_cp P_Mode_word (hr.mono (by decide)) hG (pv 0) pass0) (pa_cons (pe_cp P_Mode_word (hr.mono (by decide)) hG (pv 1) pass0) pa_nil)) pass0))), ?_⟩
    exact ⟨_, rfl, a, dx, _, rfl, ha, a, dx, z, rfl, ha, _, rfl, b, dy, _, rfl, hb, b, dy, z', rfl, hb, z, i, z', j, rfl, hz, hz', q⟩
theorem sc_Mode___or__ : FnScope ["self", "other"] ["self", "other"] (defScope s_Mode___or__) :=
  ⟨rfl, rfl, rfl, by decide +kernel, rfl, by decide +kernel, by decide +kernel⟩
theorem ok_or {f CM : Addr} {fd : FuncData} (F : Fun K "__or__" "Mode.__or__" s_Mode___or__ f fd)
    (M_Mode_is_weaker : Cm P w K mg base CX0 4 CM "is_weaker" ["self", "other"] (spWk CM)) :
    FnG P w K mg base CX0 5 f fd ["self", "other"] (spOr CM) := by
  refine fn_q F sc_Mode___or__ (fun vs H Q E h => ?_) (fun cdv A outer s H vs Q E hr hG h => ?_)
  · obtain ⟨a, dx, z, i, b, dy, z', j, rfl, _⟩ := h
    rfl
  · obtain ⟨a, dx, z, i, b, dy, z', j, rfl, ha, hb, hz, hz', q⟩ := h
    refine ⟨_, (pss_one (ps_ret (pe_ifExp (pt_val (pe_cm M_Mode_is_weaker (hr.mono (by decide)) hG (pv 0) (pa_cons (pv 1) pa_nil) pass0)) (pv 1) (pv 0)))), ?_⟩
    refine ⟨_, rfl, a, dx, _, rfl, ha, rfl, _, rfl, a, dx, z, i, b, dy, z', j, rfl, ha, hb, hz, hz', _, rfl, ite2 (fun c => ?_) fun c => ?_⟩
    · have q : Q (if i < j then .ref b else .ref a) H := q
      rw [if_pos (of_decide_eq_true c)] at q
      exact ⟨_, rfl, q⟩
    · have q : Q (if i < j then .ref b else .ref a) H := q
      rw [if_neg (fun e => c (decide_eq_true e))] at q
      exact ⟨_, rfl, q⟩
theorem sc_Mode_strongest : FnScope ["words"] ["words"] (defScope s_Mode_strongest) :=
  ⟨rfl, rfl, rfl, by decide +kernel, rfl, by decide +kernel, by decide +kernel⟩
theorem ok_strongest {f : Addr} {fd : FuncData} (F : Fun K "strongest" "Mode.strongest" s_Mode_strongest f fd) (B : Bl mg)
    (D_rank_of : Ce P w K mg base CX0 1 "rank_of" ["word"] spRank) :
    FnG P w K mg base CX0 3 f fd ["words"] (spStr K) := by
  obtain ⟨q0, fd0, g0, k0, hb0, F0⟩ := D_rank_of
  refine fn_q F sc_Mode_strongest (fun vs H Q E h => ?_) (fun cdv A outer s H vs Q E hr hG h => ?_)
  · obtain ⟨l, ws, rfl, _⟩ := h
    rfl
  · obtain ⟨l, ws, rfl, hl, hw, q⟩ := h
    refine ⟨_, (pss_one (ps_ret (pe_callBK (call_maxW F0 hb0 (hr.mono (by decide)) hG rfl) (by rfl) B.n_max (by decide +kernel) (pa_cons (pv 0) pa_nil) (pk_cons (pe_glob (v := .ref q0) (by rfl) g0 rfl) (pk_cons pe_non pk_nil))))), ?_⟩
    exact ⟨_, rfl, l, ws, rfl, rfl, hl, hw, q⟩
theorem sc__law_pairs_right : FnScope ["_law_grades", "_law_i", "_law_one", "_law_j", "_law_mate", "_law_first", "_law_second", "_law_heard", "_law_both"] ["_law_grades"] (defScope s__law_pairs_right) :=
  ⟨rfl, rfl, rfl, by decide +kernel, rfl, by decide +kernel, by decide +kernel⟩
theorem ok_pairs {f CM : Addr} {fd : FuncData} (F : Fun K "_law_pairs_right" "_law_pairs_right" s__law_pairs_right f fd) (B : Bl mg) (MC : MdC K CM) (g_Mode : mg "Mode" = some (.ref CM))
    (D_Mode : Cn P w K mg base CX0 2 "Mode" CM ["self", "word"] (spModeQ K CM)) (K_Mode : CnK P w K mg base CX0 2 "Mode" CM ["self", "word"] "word" (spModeQ K CM))
    (P_Mode_word : Cp P w K mg base CX0 1 CM "word" (spWord CM)) (P_Mode_rank : Cp P w K mg base CX0 2 CM "rank" (spRk CM))
    (M_Mode_is_weaker : Cm P w K mg base CX0 4 CM "is_weaker" ["self", "other"] (spWk CM)) (K_Mode_is_weaker : CmK P w K mg base CX0 4 CM "is_weaker" ["self", "other"] "other" (spWk CM))
    (M_Mode_clashes : Cm P w K mg base CX0 4 CM "clashes" ["self", "other"] (spCl CM)) (K_Mode_clashes : CmK P w K mg base CX0 4 CM "clashes" ["self", "other"] "other" (spCl CM))
    (M_Mode_or : Cm P w K mg base CX0 5 CM "__or__" ["self", "other"] (spOr CM)) (sf_Mode : PySem.W.selfFirst K CM = true) :
    FnG P w K mg base CX0 7 f fd ["_law_grades"] (spGr K) := by
  refine fn_q F sc__law_pairs_right (fun vs H Q E h => ?_) (fun cdv A outer s H vs Q E hr hG h => ?_)
  · obtain ⟨g, rfl, _⟩ := h
    rfl
  · obtain ⟨g, rfl, hg, q⟩ := h
    have hu := hu_of hr
    refine ⟨_, (pss_cons (ps_for PassesOwn.never rfl (pi_enum (by rfl) B.n_enumerate (pa_cons (pv 0) pa_nil)) (pg_tup rfl (pgs_cons (pg_name (i := 1) sc__law_pairs_right.nd rfl (Or.inl rfl)) (pgs_cons (pg_name (i := 2) sc__law_pairs_right.nd rfl (Or.inl rfl)) pgs_nil))) (pss_one (ps_for PassesOwn.never rfl (pi_enum (by rfl) B.n_enumerate (pa_cons (pv 0) pa_nil)) (pg_tup rfl (pgs_cons (pg_name (i := 3) sc__law_pairs_right.nd rfl (Or.inl rfl)) (pgs_cons (pg_name (i := 4) sc__law_pairs_right.nd rfl (Or.inl rfl)) pgs_nil))) (pss_cons (ps_par (i := 5) (j := 6) (by rfl) sc__law_pairs_right.nd rfl rfl (by decide) rfl rfl (pa_cons (pe_cnK K_Mode (hr.mono (by decide)) hG (pv 2) pass0) (pa_cons (pe_cn D_Mode (hr.mono (by decide)) hG (pa_cons (pv 4) pa_nil) pass0) pa_nil)) (by rfl))
      (pss_cons (ps_set (i := 7) sc__law_pairs_right.nd rfl (Or.inl rfl) (pe_lst (pa_cons (pe_cm M_Mode_is_weaker (hr.mono (by decide)) hG (pv 5) (pa_cons (pv 6) pa_nil) pass0) (pa_cons (pe_cm M_Mode_clashes (hr.mono (by decide)) hG (pv 5) (pa_cons (pv 6) pa_nil) pass0) (pa_cons (pe_cm M_Mode_clashes (hr.mono (by decide)) hG (pv 6) (pa_cons (pv 5) pa_nil) pass0) pa_nil)))))
      (pss_cons (ps_if (pt_cmpR op_ne (pe_callB (call_rep hG hr.units) (by rfl) B.n_repr (by decide +kernel) (pa_cons (pv 7) pa_nil)) (pe_callB (call_rep hG hr.units) (by rfl) B.n_repr (by decide +kernel) (pa_cons (pe_lst (pa_cons (pe_cmpR op_lt (pv 1) (pv 3) (nomark _)) (pa_cons (pe_cmpR op_gt (pe_op op_add (pv 1) (pv 3)) pe_int (nomark _)) (pa_cons (pe_cmpR op_gt (pe_op op_add (pv 1) (pv 3)) pe_int (nomark _)) pa_nil)))) pa_nil)) (nomark _)) (pss_one (ps_ret pe_bl)) pss_nil)
      (pss_cons (ps_if (pt_cmpR (op_neD hr.units) (pe_lst (pa_cons (pe_cmK K_Mode_is_weaker (hr.mono (by decide)) hG (pv 5) (pv 6) pass0) (pa_cons (pe_cmK K_Mode_clashes (hr.mono (by decide)) hG (pv 6) (pv 5) pass0) pa_nil))) (pe_slice sl_list (pv 7) po_none (po_some pe_int)) (nomark _)) (pss_one (ps_ret pe_bl)) pss_nil)
      (pss_cons (ps_set (i := 8) sc__law_pairs_right.nd rfl (Or.inl rfl) (pe_op (op_ownOr M_Mode_or sf_Mode (hr.mono (by decide)) hG) (pv 5) (pv 6)))
      (pss_cons (ps_if (PW.pt (pw_or (pt_not (pt_val (pe_callB call_isi (by rfl) B.n_isinstance (by decide +kernel) (pa_cons (pv 8) (pa_cons (pe_glob (v := .ref CM) (by rfl) g_Mode rfl) pa_nil))))) (pw_or (pt_cmpR op_ne (pe_cp P_Mode_word (hr.mono (by decide)) hG (pv 8) pass0) (pe_ix ix_list (pv 0) (pe_callB (call_max2 rfl) (by rfl) B.n_max (by decide +kernel) (pa_cons (pv 1) (pa_cons (pv 3) pa_nil))) (fun _ _ => rfl)) (nomark _)) (pw_or1 (pt_cmpR op_ne (pe_cp P_Mode_rank (hr.mono (by decide)) hG (pv 8) pass0) (pe_op op_add pe_int (pe_callB (call_max2 rfl) (by rfl) B.n_max (by decide +kernel) (pa_cons (pv 1) (pa_cons (pv 3) pa_nil)))) (nomark _)))))) (pss_one (ps_ret pe_bl)) pss_nil)
      (pss_one (ps_if (PW.pt (pw_or (pt_cmpR op_ne (pe_cp P_Mode_word (hr.mono (by decide)) hG (pv 5) pass0) (pv 2) (nomark _)) (pw_or1 (pt_cmpR op_ne (pe_cp P_Mode_word (hr.mono (by decide)) hG (pv 6) pass0) (pv 4) (nomark _))))) (pss_one (ps_ret pe_bl)) pss_nil)))))))))))
      (pss_one (ps_ret pe_bl))), ?_⟩
    have szl : ∀ {n : Nat}, n ≤ 16 → n ≤ sizeLine := fun h => Nat.le_trans h (by decide)
    let Sg (c1 c2 c3 c4 c5 c6 c7 c8 : Option V) : L2.St := [some (.ref g), c1, c2, c3, c4, c5, c6, c7, c8]
    refine ⟨_, rfl, g, rkV, rfl, hg, for_enum (fun i σ H' => (∃ c1 c2 c3 c4 c5 c6 c7 c8, σ = Sg c1 c2 c3 c4 c5 c6 c7 c8) ∧ Same H H') ⟨⟨_, _, _, _, _, _, _, _, rfl⟩, .refl _⟩ (fun i σ H' _ e => sq_up e.2 hg) ?_ ?_⟩
    · rintro i x T σ Ha hx ⟨⟨c1, c2, c3, c4, c5, c6, c7, c8, rfl⟩, sa⟩ nT
      obtain ⟨z, rfl, hz, hi4⟩ := rk_at hx
      refine ⟨T, _, rfl, .inl (.inl upd_same), rfl, _, _, rfl, _, _, rfl, rfl, ?_⟩
      have sb := sa.trans (same_new (o := .tup [.int (i : Nat), .str z]) nT)
      refine ⟨_, rfl, g, rkV, rfl, sq_up sb hg, for_enum (fun j σ H' => (∃ c3 c4 c5 c6 c7 c8, σ = Sg (some (.int (i : Nat))) (some (.str z)) c3 c4 c5 c6 c7 c8) ∧ Same H H') ⟨⟨_, _, _, _, _, _, rfl⟩, sb⟩ (fun i σ H' _ e => sq_up e.2 hg) ?_ ?_⟩
      · rintro j x' T' σ Hc hx' ⟨⟨c3, c4, c5, c6, c7, c8, rfl⟩, sc⟩ nT'
        obtain ⟨z', rfl, hz', hj4⟩ := rk_at hx'
        have e1 : decide ((i : Int) + 1 < (j : Int) + 1) = decide ((i : Int) < j) := decide_eq_decide.mpr (by omega)
        have e2 : decide ((i : Int) + 1 + ((j : Int) + 1) ≥ 5) = decide ((2 : Int) < i + j) := decide_eq_decide.mpr (by omega)
        have e3 : decide ((j : Int) + 1 + ((i : Int) + 1) ≥ 5) = decide ((2 : Int) < i + j) := decide_eq_decide.mpr (by omega)
        refine ⟨T', _, rfl, .inl (.inl upd_same), rfl, _, _, rfl, _, _, rfl, rfl, ?_⟩
        have sd := sc.trans (same_new (o := .tup [.int (j : Nat), .str z']) nT')
        refine ⟨_, rfl, fun a dx na nd ne => ⟨a, dx, z, _, rfl, upd_same, hz, rfl, ?_⟩⟩
        rw [upd_upd]
        have S1 := same_two (o := .own a) (o' := mdO CM dx z) nd na ne
        refine ⟨_, rfl, fun b dy nb nd2 ne2 => ⟨b, dy, z', _, rfl, upd_same, hz', rfl, ?_⟩⟩
        rw [upd_upd]
        have S2 := same_two (o := .own b) (o' := mdO CM dy z') nd2 nb ne2
        have ha := S2 _ _ (upd_same (o := mdO CM dx z))
        have hb := upd_same (H := upd (upd (upd (upd Hc T' (.tup [.int (j : Nat), .str z'])) dx (.own a)) a (mdO CM dx z)) dy (.own b)) (a := b) (o := mdO CM dy z')
        have se := (sd.trans S1).trans S2
        generalize upd (upd (upd (upd (upd Hc T' (.tup [.int (j : Nat), .str z'])) dx (.own a)) a (mdO CM dx z)) dy (.own b)) b (mdO CM dy z') = He at ha hb se ⊢
        refine ⟨_, _, rfl, ?_⟩
        refine ⟨_, rfl, a, dx, _, rfl, ha, rfl, _, rfl, a, dx, z, _, b, dy, z', _, rfl, ha, hb, hz, hz', ?_⟩
        refine ⟨_, rfl, a, dx, _, rfl, ha, rfl, _, rfl, a, dx, z, _, b, dy, z', _, rfl, ha, hb, hz, hz', ?_⟩
        refine ⟨_, rfl, b, dy, _, rfl, hb, rfl, _, rfl, b, dy, z', _, a, dx, z, _, rfl, hb, ha, hz', hz, szl (n := 3) (by decide), fun p np => ?_⟩
        simp only [e1, e2, e3]
        have S3 := same_new (o := .lst [.bl (decide ((i : Int) < j)), .bl (decide ((2 : Int) < i + j)), .bl (decide ((2 : Int) < i + j))]) np
        have hp := upd_same (H := He) (a := p) (o := .lst [.bl (decide ((i : Int) < j)), .bl (decide ((2 : Int) < i + j)), .bl (decide ((2 : Int) < i + j))])
        have sf := se.trans S3
        have ha := S3 _ _ ha
        have hb := S3 _ _ hb
        generalize upd He p (.lst [.bl (decide ((i : Int) < j)), .bl (decide ((2 : Int) < i + j)), .bl (decide ((2 : Int) < i + j))]) = Hf at ha hb hp sf ⊢
        refine ⟨_, rfl, .ref p, .list [.bool _, .bool _, .bool _], rfl, .lst (.inl (.inl hp)) (.cons (.bl _) (.cons (.bl _) (.cons (.bl _) .nil))), sm3 _ _ _, ?_⟩
        refine ⟨_, rfl, _, rfl, _, _, rfl, rfl, _, rfl, _, rfl, _, _, rfl, rfl, _, _, rfl, rfl, _, rfl, _, rfl, _, _, rfl, rfl, _, _, rfl, rfl, szl (n := 3) (by decide), fun p2 np2 => ?_⟩
        refine ⟨.ref p2, .list [.bool _, .bool _, .bool _], rfl, .lst (.inl (.inl upd_same)) (.cons (.bl _) (.cons (.bl _) (.cons (.bl _) .nil))), sm3 _ _ _, rfl, false, by simp, ?_⟩
        have S4 := same_new (o := .lst [.bl (decide ((i : Int) < j)), .bl (decide ((2 : Int) < i + j)), .bl (decide ((2 : Int) < i + j))]) np2
        have ha := S4 _ _ ha
        have hb := S4 _ _ hb
        have hp := S4 _ _ hp
        refine ⟨_, rfl, a, dx, _, rfl, ha, rfl, _, rfl, a, dx, z, _, b, dy, z', _, rfl, ha, hb, hz, hz', ?_⟩
        refine ⟨_, rfl, b, dy, _, rfl, hb, rfl, _, rfl, b, dy, z', _, a, dx, z, _, rfl, hb, ha, hz', hz, szl (n := 2) (by decide), fun p3 np3 => ?_⟩
        simp only [e1, e3]
        have S5 := same_new (o := .lst [.bl (decide ((i : Int) < j)), .bl (decide ((2 : Int) < i + j))]) np3
        refine ⟨_, rfl, 2, rfl, p, _, rfl, .inl (.inl (S5 _ _ hp)), fun p4 np4 => ?_⟩
        rw [cut2] at *
        have S6 := same_new (o := .lst [.bl (decide ((i : Int) < j)), .bl (decide ((2 : Int) < i + j))]) np4
        refine ⟨.list [.bool _, .bool _], .list [.bool _, .bool _], .lst (.inl (.inl (S6 _ _ upd_same))) (.cons (.bl _) (.cons (.bl _) .nil)), .lst (.inl (.inl upd_same)) (.cons (.bl _) (.cons (.bl _) .nil)), (eqv2 _ _).1, (eqv2 _ _).1, false, by rw [(eqv2 _ _).2]; rfl, ?_⟩
        have sh := ((sf.trans S4).trans S5).trans S6
        have ha := S6 _ _ (S5 _ _ ha)
        have hb := S6 _ _ (S5 _ _ hb)
        have hgr := sq_up sh hg
        -- the stronger one
        have key : ∀ Hh : Hp, Hh a = some (mdO CM dx z) → Hh b = some (mdO CM dy z') → ∃ c dc zc, ∃ m : Int, (if (i : Int) + 1 < (j : Int) + 1 then V.ref b else V.ref a) = V.ref c ∧ Hh c = some (mdO CM dc zc) ∧
            rkS zc = some (m + 1) ∧ atI rkV m = some (V.str zc) ∧ (if (j : Int) > i then (j : Int) else i) = m := fun Hh ha hb => by
          by_cases e : (i : Int) < j
          · exact ⟨b, dy, z', j, if_pos (by omega), hb, hz', rk_ge (H := H) hx' rfl, if_pos (by omega)⟩
          · exact ⟨a, dx, z, i, if_neg (by omega), ha, hz, rk_ge (H := H) hx rfl, if_neg (by omega)⟩
        obtain ⟨c, dc, zc, m, hcv, hcH, hzc, hat, hm⟩ := key _ ha hb
        refine ⟨_, rfl, _, rfl, a, dx, _, b, dy, _, rfl, ha, rfl, hb, a, dx, z, _, b, dy, z', _, rfl, ha, hb, hz, hz', ⟨c, hcv⟩, ?_⟩
        simp only [hcv]
        refine ⟨_, rfl, .ref c, .ref CM, _, _, true, rfl, .own CM, .base (.ins hcH MC.oc.cls MC.oc.ha MC.oc.hn MC.oc.htk MC.oc.hm), kit_self, true, rfl, ?_⟩
        refine ⟨_, rfl, c, dc, _, rfl, hcH, c, dc, zc, rfl, hcH, _, rfl, _, rfl, _, rfl, _, _, rfl, g, rkV, _, .str zc, rfl, rfl, hgr, by rw [hm]; exact hat, rfl, false, by simp, ?_⟩
        refine ⟨_, rfl, c, dc, _, rfl, hcH, c, dc, zc, _, rfl, hcH, hzc, _, rfl, _, rfl, _, _, rfl, _, _, rfl, rfl, rfl, false, by rw [hm]; simp; omega, ?_⟩
        refine ⟨_, rfl, a, dx, _, rfl, ha, a, dx, z, rfl, ha, _, rfl, rfl, false, by simp, ?_⟩
        refine ⟨_, rfl, b, dy, _, rfl, hb, b, dy, z', rfl, hb, _, rfl, rfl, false, by simp, ?_⟩
        exact ⟨⟨_, _, _, _, _, _, rfl⟩, sh⟩
      · rintro σ H' ⟨⟨c3, c4, c5, c6, c7, c8, rfl⟩, s'⟩
        exact ⟨⟨_, _, _, _, _, _, _, _, rfl⟩, s'⟩
    · rintro σ H' ⟨_, s'⟩
      exact q _ s'
theorem sc__law_triples_right : FnScope ["_law_grades", "_law_i", "_law_one", "_law_j", "_law_mate", "_law_k", "_law_last", "_law_left", "_law_right"] ["_law_grades"] (defScope s__law_triples_right) :=
  ⟨rfl, rfl, rfl, by decide +kernel, rfl, by decide +kernel, by decide +kernel⟩
theorem ok_triples {f CM : Addr} {fd : FuncData} (F : Fun K "_law_triples_right" "_law_triples_right" s__law_triples_right f fd) (B : Bl mg) (MC : MdC K CM)
    (hne : PySem.W.findIn K (.ref CM) "__ne__" = some (some (.builtin "object.__ne__"))) (OE : OwnE P w K mg base 1 CM (spEqM K CM))
    (D_Mode : Cn P w K mg base CX0 2 "Mode" CM ["self", "word"] (spModeQ K CM)) (P_Mode_word : Cp P w K mg base CX0 1 CM "word" (spWord CM))
    (M_Mode_or : Cm P w K mg base CX0 5 CM "__or__" ["self", "other"] (spOr CM)) (sf_Mode : PySem.W.selfFirst K CM = true) :
    FnG P w K mg base CX0 7 f fd ["_law_grades"] (spGr K) := by
  refine fn_q F sc__law_triples_right (fun vs H Q E h => ?_) (fun cdv A outer s H vs Q E hr hG h => ?_)
  · obtain ⟨g, rfl, _⟩ := h
    rfl
  · obtain ⟨g, rfl, hg, q⟩ := h
    have hu := hu_of hr
    have hu1 : (A.deeper (envOfC "_law_triples_right" (defScope s__law_triples_right) s.heap.objs.size f cdv)).units + 1 < cLine := by have := hr.units; omega
    refine ⟨_, (pss_cons (ps_for PassesOwn.never rfl (pi_enum (by rfl) B.n_enumerate (pa_cons (pv 0) pa_nil)) (pg_tup rfl (pgs_cons (pg_name (i := 1) sc__law_triples_right.nd rfl (Or.inl rfl)) (pgs_cons (pg_name (i := 2) sc__law_triples_right.nd rfl (Or.inl rfl)) pgs_nil))) (pss_one (ps_for PassesOwn.never rfl (pi_enum (by rfl) B.n_enumerate (pa_cons (pv 0) pa_nil)) (pg_tup rfl (pgs_cons (pg_name (i := 3) sc__law_triples_right.nd rfl (Or.inl rfl)) (pgs_cons (pg_name (i := 4) sc__law_triples_right.nd rfl (Or.inl rfl)) pgs_nil))) (pss_one (ps_for PassesOwn.never rfl (pi_enum (by rfl) B.n_enumerate (pa_cons (pv 0) pa_nil)) (pg_tup rfl (pgs_cons (pg_name (i := 5) sc__law_triples_right.nd rfl (Or.inl rfl)) (pgs_cons (pg_name (i := 6) sc__law_triples_right.nd rfl (Or.inl rfl)) pgs_nil))) (pss_cons (ps_set (i := 7) sc__law_triples_right.nd rfl (Or.inl rfl) (pe_op (op_ownOr M_Mode_or sf_Mode (hr.mono (by decide)) hG) (pe_op (op_ownOr M_Mode_or sf_Mode (hr.mono (by decide)) hG) (pe_cn D_Mode (hr.mono (by decide)) hG (pa_cons (pv 2) pa_nil) pass0) (pe_cn D_Mode (hr.mono (by decide)) hG (pa_cons (pv 4) pa_nil) pass0)) (pe_cn D_Mode (hr.mono (by decide)) hG (pa_cons (pv 6) pa_nil) pass0)))
      (pss_cons (ps_set (i := 8) sc__law_triples_right.nd rfl (Or.inl rfl) (pe_op (op_ownOr M_Mode_or sf_Mode (hr.mono (by decide)) hG) (pe_cn D_Mode (hr.mono (by decide)) hG (pa_cons (pv 2) pa_nil) pass0) (pe_op (op_ownOr M_Mode_or sf_Mode (hr.mono (by decide)) hG) (pe_cn D_Mode (hr.mono (by decide)) hG (pa_cons (pv 4) pa_nil) pass0) (pe_cn D_Mode (hr.mono (by decide)) hG (pa_cons (pv 6) pa_nil) pass0))))
      (pss_one (ps_if (PW.pt (pw_or (pt_cmpR (op_ownNe OE MC.oc.hm hne (hr.mono (by decide)) hG hu1) (pv 7) (pv 8) (nomark _)) (pw_or1 (pt_cmpR op_ne (pe_cp P_Mode_word (hr.mono (by decide)) hG (pv 7) pass0) (pe_ix ix_list (pv 0) (pe_callB (cr_max rfl) (by rfl) B.n_max (by decide +kernel) (pa_cons (pe_lst (pa_cons (pv 1) (pa_cons (pv 3) (pa_cons (pv 5) pa_nil)))) pa_nil)) (fun _ _ => rfl)) (nomark _))))) (pss_one (ps_ret pe_bl)) pss_nil)))))))))
      (pss_one (ps_ret pe_bl))), ?_⟩
    have szl : ∀ {n : Nat}, n ≤ 16 → n ≤ sizeLine := fun h => Nat.le_trans h (by decide)
    let Sg (c1 c2 c3 c4 c5 c6 c7 c8 : Option V) : L2.St := [some (.ref g), c1, c2, c3, c4, c5, c6, c7, c8]
    refine ⟨_, rfl, g, rkV, rfl, hg, for_enum (fun i σ H' => (∃ c1 c2 c3 c4 c5 c6 c7 c8, σ = Sg c1 c2 c3 c4 c5 c6 c7 c8) ∧ Same H H') ⟨⟨_, _, _, _, _, _, _, _, rfl⟩, .refl _⟩ (fun i σ H' _ e => sq_up e.2 hg) ?_ ?_⟩
    · rintro i x T σ Ha hx ⟨⟨c1, c2, c3, c4, c5, c6, c7, c8, rfl⟩, sa⟩ nT
      obtain ⟨z1, rfl, hz1, hi4⟩ := rk_at hx
      refine ⟨T, _, rfl, .inl (.inl upd_same), rfl, _, _, rfl, _, _, rfl, rfl, ?_⟩
      have sb := sa.trans (same_new (o := .tup [.int (i : Nat), .str z1]) nT)
      refine ⟨_, rfl, g, rkV, rfl, sq_up sb hg, for_enum (fun j σ H' => (∃ c3 c4 c5 c6 c7 c8, σ = Sg (some (.int (i : Nat))) (some (.str z1)) c3 c4 c5 c6 c7 c8) ∧ Same H H') ⟨⟨_, _, _, _, _, _, rfl⟩, sb⟩ (fun i σ H' _ e => sq_up e.2 hg) ?_ ?_⟩
      · rintro j x T2 σ Hc hx2 ⟨⟨c3, c4, c5, c6, c7, c8, rfl⟩, sc⟩ nT2
        obtain ⟨z2, rfl, hz2, hj4⟩ := rk_at hx2
        refine ⟨T2, _, rfl, .inl (.inl upd_same), rfl, _, _, rfl, _, _, rfl, rfl, ?_⟩
        have sd := sc.trans (same_new (o := .tup [.int (j : Nat), .str z2]) nT2)
        refine ⟨_, rfl, g, rkV, rfl, sq_up sd hg, for_enum (fun k σ H' => (∃ c5 c6 c7 c8, σ = Sg (some (.int (i : Nat))) (some (.str z1)) (some (.int (j : Nat))) (some (.str z2)) c5 c6 c7 c8) ∧ Same H H') ⟨⟨_, _, _, _, rfl⟩, sd⟩ (fun i σ H' _ e => sq_up e.2 hg) ?_ ?_⟩
        · rintro k x T3 σ He hx3 ⟨⟨c5, c6, c7, c8, rfl⟩, se⟩ nT3
          obtain ⟨z3, rfl, hz3, hk4⟩ := rk_at hx3
          refine ⟨T3, _, rfl, .inl (.inl upd_same), rfl, _, _, rfl, _, _, rfl, rfl, ?_⟩
          have sf := se.trans (same_new (o := .tup [.int (k : Nat), .str z3]) nT3)
          have ML := md_or (md_or (md_make (K := K) (C := CM) (σ := Sg (some (.int (i : Nat))) (some (.str z1)) (some (.int (j : Nat))) (some (.str z2)) (some (.int (k : Nat))) (some (.str z3)) c7 c8) (i := 2) rfl hz1) (md_make (K := K) (i := 4) rfl hz2)) (md_make (K := K) (i := 6) rfl hz3)
          refine asg_md ML fun l dl H1 s1 hl => ?_
          have MR := md_or (md_make (K := K) (C := CM) (σ := Sg (some (.int (i : Nat))) (some (.str z1)) (some (.int (j : Nat))) (some (.str z2)) (some (.int (k : Nat))) (some (.str z3)) (some (.ref l)) c8) (i := 2) rfl hz1) (md_or (md_make (K := K) (i := 4) rfl hz2) (md_make (K := K) (i := 6) rfl hz3))
          refine asg_md MR fun r dr H2 s2 hr2 => ?_
          have hl2 := s2 _ _ hl
          have rl := ML.1
          have rr := MR.1
          generalize hzl : (if (if (i : Int) + 1 < (j : Int) + 1 then (j : Int) + 1 else (i : Int) + 1) < (k : Int) + 1 then z3 else if (i : Int) + 1 < (j : Int) + 1 then z2 else z1) = zl at *
          generalize hzr : (if (i : Int) + 1 < (if (j : Int) + 1 < (k : Int) + 1 then (k : Int) + 1 else (j : Int) + 1) then if (j : Int) + 1 < (k : Int) + 1 then z3 else z2 else z1) = zr at *
          have en : (if (if (i : Int) + 1 < (j : Int) + 1 then (j : Int) + 1 else (i : Int) + 1) < (k : Int) + 1 then (k : Int) + 1 else if (i : Int) + 1 < (j : Int) + 1 then (j : Int) + 1 else (i : Int) + 1) =
              (if (i : Int) + 1 < (if (j : Int) + 1 < (k : Int) + 1 then (k : Int) + 1 else (j : Int) + 1) then if (j : Int) + 1 < (k : Int) + 1 then (k : Int) + 1 else (j : Int) + 1 else (i : Int) + 1) := by
            repeat (first | omega | split)
          have ez : zl = zr := rk_inj rl (by rw [en]; exact rr)
          refine ⟨_, rfl, _, rfl, l, dl, _, r, dr, _, rfl, hl2, rfl, hr2, l, dl, zl, .ref r, rfl, hl2, .inr ⟨r, dr, zr, rfl, hr2, _, rfl, false, by simp [ez], ?_⟩⟩
          refine ⟨_, rfl, l, dl, _, rfl, hl2, l, dl, zl, rfl, hl2, _, rfl, _, rfl, _, rfl, _, rfl, szl (n := 3) (by decide), fun p np => ?_⟩
          have sg := ((sf.trans s1).trans s2).trans (same_new (o := .lst [.int (i : Nat), .int (j : Nat), .int (k : Nat)]) np)
          refine ⟨p, [(i : Int), (j : Int), (k : Int)], rfl, .inl (.inl upd_same), (show 0 < 3 by decide), fun m hm hle => ?_⟩
          have hmx : (if (if (i : Int) + 1 < (j : Int) + 1 then (j : Int) + 1 else (i : Int) + 1) < (k : Int) + 1 then (k : Int) + 1 else if (i : Int) + 1 < (j : Int) + 1 then (j : Int) + 1 else (i : Int) + 1) = m + 1 := by
            have h1 := hle i (by simp)
            have h2 := hle j (by simp)
            have h3 := hle k (by simp)
            simp at hm
            repeat (first | omega | split)
          rw [hmx] at rl
          refine ⟨g, rkV, m, .str zl, rfl, rfl, sq_up sg hg, rk_ix rl, rfl, false, by simp, ?_⟩
          exact ⟨⟨_, _, _, _, rfl⟩, sg⟩
        · rintro σ H' ⟨⟨c5, c6, c7, c8, rfl⟩, s'⟩
          exact ⟨⟨_, _, _, _, _, _, rfl⟩, s'⟩
      · rintro σ H' ⟨⟨c3, c4, c5, c6, c7, c8, rfl⟩, s'⟩
        exact ⟨⟨_, _, _, _, _, _, _, _, rfl⟩, s'⟩
    · rintro σ H' ⟨_, s'⟩
      exact q _ s'
theorem sc_law : FnScope ["_law_script", "_law_grades", "_law_start", "_law_tape_here", "_law_turn", "_law_pool", "_law_some", "_law_seen", "_law_due", "_law_grade", "_law_k"] ["_law_script"] (defScope s_law) :=
  ⟨rfl, rfl, rfl, by decide +kernel, rfl, by decide +kernel, by decide +kernel⟩
theorem ok_law {f CM : Addr} {fd : FuncData} (F : Fun K "law" "law" s_law f fd) (B : Bl mg) (MC : MdC K CM) (g_Mode : mg "Mode" = some (.ref CM))
    (D__law_tape : Ce P w K mg base CX0 1 "_law_tape" ["_law_script", "_law_start"] (spTape K))
    (D__law_pick : Ce P w K mg base CX0 1 "_law_pick" ["_law_tape_here", "_law_many"] spPick)
    (D__law_one_of : Ce P w K mg base CX0 2 "_law_one_of" ["_law_tape_here", "_law_items"] (spOne K))
    (D__law_pairs_right : Ce P w K mg base CX0 7 "_law_pairs_right" ["_law_grades"] (spGr K))
    (D__law_triples_right : Ce P w K mg base CX0 7 "_law_triples_right" ["_law_grades"] (spGr K))
    (D_Mode : Cn P w K mg base CX0 2 "Mode" CM ["self", "word"] (spModeQ K CM))
    (S_Mode_strongest : Cs P w K mg base CX0 3 CM "strongest" ["words"] "words" (spStr K)) :
    FnG P w K mg base CX0 8 f fd ["_law_script"] (spLaw K) := by
  refine fn_q F sc_law (fun vs H Q E h => ?_) (fun cdv A outer s H vs Q E hr hG h => ?_)
  · obtain ⟨a, ns, rfl, _⟩ := h
    rfl
  · obtain ⟨a, ns, rfl, ha, hn, hb, q⟩ := h
    have hu := hu_of hr
    refine ⟨_, (pss_cons (ps_set (i := 1) sc_law.nd rfl (Or.inl rfl) (pe_lst (pa_cons pe_str (pa_cons pe_str (pa_cons pe_str (pa_cons pe_str pa_nil))))))
      (pss_cons (ps_if (PW.pt (pw_or (pt_not (pt_val (pe_ce D__law_pairs_right (hr.mono (by decide)) hG (pa_cons (pv 1) pa_nil) pass0))) (pw_or1 (pt_not (pt_val (pe_ce D__law_triples_right (hr.mono (by decide)) hG (pa_cons (pv 1) pa_nil) pass0)))))) (pss_one (ps_ret pe_bl)) pss_nil)
      (pss_cons (ps_for PassesOwn.never rfl (pi_range1 (by rfl) B.n_range (pa_cons (pe_callB (call_max2 rfl) (by rfl) B.n_max (by decide +kernel) (pa_cons pe_int (pa_cons (pe_callB (call_min2 rfl) (by rfl) B.n_min (by decide +kernel) (pa_cons pe_int (pa_cons (pe_callB call_len_seq (by rfl) B.n_len (by decide +kernel) (pa_cons (pv 0) pa_nil)) pa_nil))) pa_nil))) pa_nil)) (pg_name (i := 2) sc_law.nd rfl (Or.inl rfl)) (pss_cons (ps_set (i := 3) sc_law.nd rfl (Or.inr rfl) (pe_ce D__law_tape (hr.mono (by decide)) hG (pa_cons (pv 0) (pa_cons (pv 2) pa_nil)) pass0))
      (pss_one (ps_for PassesOwn.never rfl (pi_range1 (by rfl) B.n_range (pa_cons pe_int pa_nil)) (pg_name (i := 4) sc_law.nd rfl (Or.inl rfl)) (pss_cons (ps_set (i := 5) sc_law.nd rfl (Or.inr rfl) (pe_slice sl_list (pv 1) po_none (po_some (pe_op op_add pe_int (pe_ce D__law_pick (hr.mono (by decide)) hG (pa_cons (pv 3) (pa_cons pe_int pa_nil)) pass0)))))
      (pss_cons (ps_setLc (i := 6) (own := [("_law_k", 10)]) (g := gName 10) rfl sc_law.nd rfl rfl (sw_true rfl rfl rfl (by decide +kernel)) (pi_range1 (by rfl) B.n_range (pa_cons (pe_ce D__law_pick (hr.mono (by decide)) hG (pa_cons (pv 3) (pa_cons pe_int pa_nil)) pass0) pa_nil)) (blkOk_by (own := [("_law_k", 10)]) (N := ["_law_script", "_law_grades", "_law_start", "_law_tape_here", "_law_turn", "_law_pool", "_law_some", "_law_seen", "_law_due", "_law_grade", "_law_k"]) (sc := defScope s_law) (by decide +kernel))
        (fun _ _ _ _ _ => pg_name (i := 10) sc_law.nd rfl (Or.inl rfl)) (fun _ _ _ _ _ => pts_nil) (fun _ _ _ _ _ => (pe_ce D__law_one_of (hr.mono (by decide)) hG (pa_cons (pv 3) (pa_cons (pv 5) pa_nil)) pass0)))
      (pss_cons (ps_set (i := 7) sc_law.nd rfl (Or.inl rfl) (pe_callTy call_list_of (by rfl) B.n_list (by decide +kernel) (pa_cons (pv 6) pa_nil)))
      (pss_cons (ps_set (i := 8) sc_law.nd rfl (Or.inl rfl) pe_non)
      (pss_cons (ps_for PassesOwn.never rfl (pi_list (pv 1)) (pg_name (i := 9) sc_law.nd rfl (Or.inl rfl)) (pss_one (ps_set (i := 8) sc_law.nd rfl (Or.inl rfl) (pe_ifExp (pt_cmpR op_in_seq (pv 9) (pv 6) (by rfl)) (pv 9) (pv 8)))))
      (pss_cons (ps_if (PW.pt (pw_or (pt_cmpR op_ne (pe_callB (call_rep hG hr.units) (by rfl) B.n_repr (by decide +kernel) (pa_cons (pe_cs S_Mode_strongest (hr.mono (by decide)) hG (pe_glob (v := .ref CM) (by rfl) g_Mode rfl) (pa_cons (pv 6) pa_nil) pass0) pa_nil)) (pe_callB (call_rep hG hr.units) (by rfl) B.n_repr (by decide +kernel) (pa_cons (pv 8) pa_nil)) (nomark _)) (pw_or1 (pt_cmpR (op_neD hr.units) (pv 6) (pv 7) (nomark _))))) (pss_one (ps_ret pe_bl)) pss_nil)
      (pss_one (ps_if (PW.pt (pw_and (pt_cmpR (op_neD hr.units) (pv 6) (pe_lst pa_nil) (nomark _)) (pw_and1 (pt_cmpR op_ne (pe_csK S_Mode_strongest (hr.mono (by decide)) hG (pe_glob (v := .ref CM) (by rfl) g_Mode rfl) (pe_rev (pv 6) (pe_un un_neg pe_int)) pass0) (pv 8) (nomark _))))) (pss_one (ps_ret pe_bl)) pss_nil))))))))))))
      (pss_one (ps_ret (pe_and (pe_cmpR op_isN (pe_cs S_Mode_strongest (hr.mono (by decide)) hG (pe_glob (v := .ref CM) (by rfl) g_Mode rfl) (pa_cons (pe_lst pa_nil) pa_nil) pass0) pe_non (nomark _)) (pe_one (pe_cmpR op_eq (pe_csI S_Mode_strongest (hr.mono (by decide)) hG (pe_cn D_Mode (hr.mono (by decide)) hG (pa_cons pe_str pa_nil) pass0) (pa_cons (pe_lst (pa_cons pe_str pa_nil)) pa_nil) pass0) pe_str (nomark _))))))))), ?_⟩
    have szl : ∀ {n : Nat}, n ≤ 16 → n ≤ sizeLine := fun h => Nat.le_trans h (by decide)
    refine ⟨szl (n := 4) (by decide), fun g ng => ?_⟩
    have hg0 : upd H g (.lst rkV) g = some (.lst rkV) := upd_same
    have s0 := same_new (o := .lst rkV) ng
    refine ⟨_, rfl, g, rfl, .inl (.inl upd_same), fun Hp2 s2 => ⟨true, rfl, ?_⟩⟩
    refine ⟨_, rfl, g, rfl, .inl (.inl (s2 _ _ upd_same)), fun H1 s3 => ⟨true, rfl, ?_⟩⟩
    have hg : H1 g = some (.lst rkV) := s3 _ _ (s2 _ _ upd_same)
    have ha1 : SqL K H1 a (ns.map V.int) := sq_up ((s0.trans s2).trans s3) ha
    have hlen : (ns.map V.int).length = ns.length := List.length_map ..
    let Sg (c2 c3 c4 c5 c6 c7 c8 c9 : Option V) : L2.St := [some (.ref a), some (.ref g), c2, c3, c4, c5, c6, c7, c8, c9, none]
    refine ⟨_, rfl, _, _, rfl, .inl ha1, 3, _, rfl, 1, _, rfl, _, rfl, ?_, ?_, for_range (fun i σ H' => (∃ c2 c3 c4 c5 c6 c7 c8 c9, σ = Sg c2 c3 c4 c5 c6 c7 c8 c9) ∧ Same H1 H')
      ⟨⟨_, _, _, _, _, _, _, _, rfl⟩, .refl _⟩ ?_ ?_⟩
    · split <;> split <;> omega
    · split <;> split <;> omega
    · rintro i σ Hs hi ⟨⟨c2, c3, c4, c5, c6, c7, c8, c9, rfl⟩, s1⟩
      have hi3 : (i : Int) ≤ 3 := by
        have h2 : (i : Int) < ((if (if ((ns.map V.int).length : Int) < 3 then ((ns.map V.int).length : Int) else 3) > 1 then (if ((ns.map V.int).length : Int) < 3 then ((ns.map V.int).length : Int) else 3) else 1) : Int) := by
          have := hi
          omega
        split at h2 <;> (try split at h2) <;> omega
      refine ⟨_, rfl, _, rfl, a, ns, _, rfl, sq_up s1 ha1, hn, hb, by omega, by omega, fun t o nt ho => ?_⟩
      have hgs : Hs g = some (.lst rkV) := s1 _ _ hg
      refine ⟨8, rfl, by decide, by decide, for_range (fun j σ H' => (∃ c4 c5 c6 c7 c8 c9, σ = Sg (some (.int (0 + (i : Nat)))) (some (.ref t)) c4 c5 c6 c7 c8 c9) ∧ Same Hs H' ∧ ∃ o, H' t = some o ∧ IsTape o)
        ⟨⟨_, _, _, _, _, _, rfl⟩, same_new nt, o, upd_same, ho⟩ ?_ ?_⟩
      · rintro j σ Hx hj ⟨⟨c4, c5, c6, c7, c8, c9, rfl⟩, sx, o1, ht1, ho1⟩
        -- the pool
        refine ⟨_, rfl, _, rfl, t, o1, 4, rfl, ht1, ho1, by decide, by decide, fun k o2 k0 k1 ho2 => ?_⟩
        have sA := same_tape (o := o2) nt sx
        refine ⟨1, k, rfl, rfl, _, rfl, g, rkV, rfl, .inl (.inl (sA _ _ hgs)), fun pp npp => ?_⟩
        obtain ⟨pl1, pl2, plm⟩ := pool_at k0 k1
        generalize hpl : cutV rkV none (some (1 + k)) = pl at pl1 pl2 plm ⊢
        have N1 := new_at (.lst pl) npp (upd_same (o := o2))
        have sB := sA.trans N1.s
        -- the words
        refine ⟨_, rfl, t, o2, 13, rfl, N1.th, ho2, by decide, by decide, fun m o3 m0 m1 ho3 => ?_⟩
        have ppt : pp ≠ t := fun e => by rw [e, upd_same] at npp; cases npp
        have sC := same_tape (o := o3) nt sB
        refine ⟨m, rfl, by omega, by omega, fun D nD => Rm.lc_range (fun n H' => (∃ o, H' t = some o ∧ IsTape o) ∧ Same Hs H' ∧ H' pp = some (.lst pl) ∧ ∃ ws, H' D = some (.lst (strV ws)) ∧ ws.length = n ∧ ∀ p ∈ ws, rkS p.1 = some p.2) ?_ ?_ ?_⟩
        · have ND := new_at (.lst []) nD (upd_same (o := o3))
          refine ⟨⟨o3, ND.th, ho3⟩, sC.trans ND.s, ND.s _ _ (by rw [upd_ne ppt]; exact upd_same), [], upd_same, rfl, fun p hp => by cases hp⟩
        · rintro n Hy hn2 ⟨⟨oy, hty, hoy⟩, sy, hpy, ws, hDy, hlw, hw⟩
          have Dt : D ≠ t := fun e => by rw [e, upd_same] at nD; cases nD
          have Dpp : pp ≠ D := fun e => by
            rw [← e, upd_ne ppt, upd_same] at nD
            cases nD
          refine ⟨rfl, _, rfl, _, rfl, t, pp, oy, pl, rfl, hty, hoy, .inl (.inl hpy), pl1, by omega, fun ix v o' hv ho' => ?_⟩
          obtain ⟨zv, nv, rfl, hzv⟩ := plm ix v hv
          refine ⟨strV ws, by rw [upd_ne Dt]; exact hDy, ?_, ⟨o', ?_, ho'⟩, fun b u hb' => ?_, ?_, ws ++ [(zv, nv)], ?_, ?_, ?_⟩
          · have : (strV ws).length = n := by unfold strV; rw [List.length_map]; exact hlw
            have l13 : m.toNat ≤ 13 := by omega
            have := szl (n := 16) (by decide)
            omega
          · rw [upd_ne (Ne.symm Dt)]; exact upd_same
          · have b1 := sy b u hb'
            have bt : b ≠ t := fun e => by rw [e, nt] at hb'; cases hb'
            have bD : b ≠ D := fun e => by
              rw [e] at hb'
              have := sC _ _ hb'
              rw [nD] at this
              cases this
            rw [upd_ne bD, upd_ne bt]
            exact b1
          · rw [upd_ne Dpp, upd_ne ppt]; exact hpy
          · rw [upd_same]; unfold strV; rw [List.map_append]; rfl
          · rw [List.length_append, hlw]; rfl
          · intro p hp
            rcases List.mem_append.mp hp with hp | hp
            · exact hw p hp
            · rw [List.mem_singleton.mp hp]; exact hzv
        · rintro Hy ⟨⟨oy, hty, hoy⟩, sy, hpy, ws, hDy, hlw, hw⟩
          refine ⟨_, rfl, D, _, rfl, .inl (.inl (.inl hDy)), fun l nl => ?_⟩
          have sl := same_new (o := .lst (strV ws)) nl
          have hDl := sl _ _ hDy
          have htl := sl _ _ hty
          have sz := sy.trans sl
          have hll := upd_same (H := Hy) (a := l) (o := .lst (strV ws))
          generalize upd Hy l (.lst (strV ws)) = Hz at hDl htl sz hll ⊢
          have hgz := sz _ _ hgs
          have flat : (strV ws).all flatV = true := by
            unfold strV
            rw [List.all_eq_true]
            intro v hv
            obtain ⟨p, _, rfl⟩ := List.mem_map.mp hv
            rfl
          refine ⟨_, rfl, g, rfl, ⟨_, .inl (.inl hgz)⟩, for_list (xs := rkV) (fun n σ H' => H' = Hz ∧ ∃ c9, σ = Sg (some (.int (0 + (i : Nat)))) (some (.ref t)) (some (.int (0 + (j : Nat)))) (some (.ref pp)) (some (.ref D)) (some (.ref l)) (some (dueOf (rkV.take n) (strV ws))) c9)
            ⟨rfl, _, rfl⟩ (fun n σ H' _ e => by rw [e.1]; exact .inl (.inl hgz)) ?_ ?_⟩
          · rintro n x σ H' hx ⟨rfl, c9, rfl⟩
            obtain ⟨zx, rfl, _, _⟩ := rk_at hx
            refine ⟨_, rfl, _, rfl, D, _, rfl, .inl (.inl (.inl hDl)), rfl, flat, _, rfl, ?_⟩
            have dn := due_next (xs := strV ws) hx
            unfold dueStep at dn
            refine ite2 (fun c => ?_) fun c => ?_
            · have c : inV (V.str zx) (strV ws) = true := c
              rw [if_pos c] at dn
              exact ⟨_, rfl, rfl, _, by rw [dn]; rfl⟩
            · have c : ¬ inV (V.str zx) (strV ws) = true := c
              rw [if_neg c] at dn
              exact ⟨_, rfl, rfl, _, by rw [dn]; rfl⟩
          · rintro σ H' ⟨rfl, c9, rfl⟩
            rw [List.take_length, due_best hw]
            have sh := str_shaped hw
            have dp := Dp.lst (K := K) (H := H') (.inl (.inl hDl)) (str_all ws)
            have dp2 := Dp.lst (K := K) (H := H') (.inl (.inl hll)) (str_all ws)
            have er := SeqAt.eqv_refl (strD ws) (SeqAt.canLay_of_shaped sh)
            refine ⟨rfl, _, rfl, D, ws, rfl, .inl (.inl hDl), hw, bestV ws, bestD ws, rfl, best_dx ws, best_sm hw, _, rfl, bestV ws, bestD ws, rfl, best_dx ws, best_sm hw, rfl, false, by simp, ?_⟩
            refine ⟨_, rfl, _, rfl, strD ws, strD ws, dp, dp2, sh, sh, false, by rw [er]; rfl, ?_⟩
            have scb : scal (bestV ws) (bestV ws) = true := by
              unfold bestV
              cases bestL ws <;> rfl
            refine ⟨_, rfl, szl (n := 0) (by decide), fun p0 np0 => ?_⟩
            have S0 := same_new (o := .lst []) np0
            refine ⟨strD ws, .list [], .lst (.inl (.inl (S0 _ _ hDl))) (str_all ws), .lst (.inl (.inl upd_same)) .nil, sh, by decide +kernel, _, rfl, ite2 (fun c => ?_) fun c => ?_⟩
            · refine ⟨rfl, _, rfl, 1, rfl, rfl, D, strV ws, rfl, .inl (.inl (S0 _ _ hDl)), fun p3 np3 => ?_⟩
              have S3 := S0.trans (same_new (o := .lst (strV ws).reverse) np3)
              refine ⟨p3, ws.reverse, rfl, .inl (.inl (by rw [upd_same]; unfold strV; rw [List.map_reverse])), fun p hp => hw p (List.mem_reverse.mp hp), ?_⟩
              rw [best_rev hw]
              refine ⟨_, rfl, scb, false, by simp, ?_⟩
              exact ⟨⟨_, _, _, _, _, _, rfl⟩, sz.trans S3, oy, S3 _ _ htl, hoy⟩
            · exact ⟨⟨_, _, _, _, _, _, rfl⟩, sz.trans S0, oy, S0 _ _ htl, hoy⟩
      · rintro σ H' ⟨⟨c4, c5, c6, c7, c8, c9, rfl⟩, s2', _⟩
        exact ⟨⟨_, _, _, _, _, _, _, _, rfl⟩, s1.trans s2'⟩
    · rintro σ H' ⟨⟨c2, c3, c4, c5, c6, c7, c8, c9, rfl⟩, s1⟩
      refine ⟨rfl, szl (n := 0) (by decide), fun p np => ⟨p, [], rfl, .inl (.inl upd_same), fun _ hp => (by cases hp), rfl, true, rfl, ?_⟩⟩
      refine fun x dx nx nd ne => ⟨x, dx, "hold", 1, rfl, upd_same, rfl, rfl, ?_⟩
      rw [upd_upd]
      refine ⟨x, dx, _, rfl, upd_same, rfl, szl (n := 1) (by decide), fun p2 np2 => ⟨p2, [("keep", 2)], rfl, .inl (.inl upd_same), fun q hq => ?_, rfl, ?_⟩⟩
      · rw [List.mem_singleton.mp hq]; rfl
      · skip
        exact q _
end
/-! ### what the top has written -/
theorem all_mk {P : Program} {w : World} {K : PySem.W.Frag} {h : Heap} {mg : Str → Option Value} {fa C_Mode R : Addr} (X : K.In h) (G : h.Ns mainGlobals mg) (hfa : mg "law" = some (.ref fa))
    {t1 t2 t3 t4 u1 u2 u3 u4 tc : Tok} {rn : Nat} (r_g : PySem.W.nsIn K mainGlobals "RANKS" = some (some (.ref R)))
    (r_l : K.lookup R = some ⟨.type "dict", none, .dict #[⟨PyData.keyHash w.params "hold", .str "hold" t1, .int 1 u1⟩,
      ⟨PyData.keyHash w.params "keep", .str "keep" t2, .int 2 u2⟩, ⟨PyData.keyHash w.params "change", .str "change" t3, .int 3 u3⟩,
      ⟨PyData.keyHash w.params "replace", .str "replace" t4, .int 4 u4⟩] rn, #[]⟩) (r_low : (R == sysModules) = false)
    (r_c : PySem.W.nsIn K mainGlobals "CLASH" = some (some (.int 5 tc)))
    -- the class
    (m_g : PySem.W.nsIn K mainGlobals "Mode" = some (some (.ref C_Mode))) (m_pg : PySem.W.plainGet K C_Mode Str.empty = true) (m_hd : PySem.W.hasDictIn K C_Mode = true) (m_po : PySem.W.plainOver K C_Mode = true)
    (m_sa : PySem.W.findIn K (.ref C_Mode) "__setattr__" = some (some (.builtin "object.__setattr__"))) (m_mk : PySem.W.makesIn K C_Mode = true) (m_k : PySem.W.keepIn K (.ref C_Mode) = true)
    (m_ty : PySem.W.typeIn K (.ref C_Mode) = some (.type "type")) (m_ha : PySem.W.findIn K (.ref C_Mode) "__class__" = some (some (.builtin "object.__class__")))
    (m_hn : PySem.W.specialIn K (.builtin "object.__class__") "__get__" = some (some (.builtin "getset_descriptor.__get__"))) (m_ht : PySem.W.takesIn K (.builtin "object.__class__") = some true)
    (m_hm : PySem.W.mroIn K C_Mode (.type "object") = some true) (m_nw : PySem.W.findIn K (.ref C_Mode) "_word" = some none)
    (m_ne : PySem.W.findIn K (.ref C_Mode) "__ne__" = some (some (.builtin "object.__ne__"))) (m_sf : PySem.W.selfFirst K C_Mode = true)
    (m_ga : PySem.W.specialIn K (.ref C_Mode) "__getattribute__" = some (some (.builtin "type.__getattribute__"))) (m_rd : PySem.W.readsIn K C_Mode (.type "type") = true)
    (s_list : PySem.W.subIn K (.ref C_Mode) (.type "list") = some false) (s_tuple : PySem.W.subIn K (.ref C_Mode) (.type "tuple") = some false) (s_dict : PySem.W.subIn K (.ref C_Mode) (.type "dict") = some false) (s_int : PySem.W.subIn K (.ref C_Mode) (.type "int") = some false) (s_bool : PySem.W.subIn K (.ref C_Mode) (.type "bool") = some false) (s_str : PySem.W.subIn K (.ref C_Mode) (.type "str") = some false) (s_NoneType : PySem.W.subIn K (.ref C_Mode) (.type "NoneType") = some false)
    {f_is_mode : Addr} {oc_is_mode kV_is_mode dc_is_mode pm_is_mode cd_is_mode ct_is_mode : Value} {od_is_mode an_is_mode : Option Addr} {sl_is_mode : Array (Option Value)}
    (a_is_mode : PySem.W.nsIn K mainGlobals "is_mode" = some (some (.ref f_is_mode))) (l_is_mode : K.lookup f_is_mode = some ⟨oc_is_mode, od_is_mode, .func (PySem.W.fnOf "is_mode" "is_mode" (defArgs s_is_mode) (defBody s_is_mode) (defScope s_is_mode) .none kV_is_mode dc_is_mode pm_is_mode an_is_mode cd_is_mode ct_is_mode), sl_is_mode⟩) (c_is_mode : PySem.W.codeIn K cd_is_mode "is_mode" = true) (k_is_mode : PySem.W.keepIn K (.ref f_is_mode) = true)
    {f_rank_of : Addr} {oc_rank_of kV_rank_of dc_rank_of pm_rank_of cd_rank_of ct_rank_of : Value} {od_rank_of an_rank_of : Option Addr} {sl_rank_of : Array (Option Value)}
    (a_rank_of : PySem.W.nsIn K mainGlobals "rank_of" = some (some (.ref f_rank_of))) (l_rank_of : K.lookup f_rank_of = some ⟨oc_rank_of, od_rank_of, .func (PySem.W.fnOf "rank_of" "rank_of" (defArgs s_rank_of) (defBody s_rank_of) (defScope s_rank_of) .none kV_rank_of dc_rank_of pm_rank_of an_rank_of cd_rank_of ct_rank_of), sl_rank_of⟩) (c_rank_of : PySem.W.codeIn K cd_rank_of "rank_of" = true) (k_rank_of : PySem.W.keepIn K (.ref f_rank_of) = true)
    {f_clash : Addr} {oc_clash kV_clash dc_clash pm_clash cd_clash ct_clash : Value} {od_clash an_clash : Option Addr} {sl_clash : Array (Option Value)}
    (a_clash : PySem.W.nsIn K mainGlobals "clash" = some (some (.ref f_clash))) (l_clash : K.lookup f_clash = some ⟨oc_clash, od_clash, .func (PySem.W.fnOf "clash" "clash" (defArgs s_clash) (defBody s_clash) (defScope s_clash) .none kV_clash dc_clash pm_clash an_clash cd_clash ct_clash), sl_clash⟩) (c_clash : PySem.W.codeIn K cd_clash "clash" = true) (k_clash : PySem.W.keepIn K (.ref f_clash) = true)
    {f_Mode___init__ : Addr} {oc_Mode___init__ kV_Mode___init__ dc_Mode___init__ pm_Mode___init__ cd_Mode___init__ ct_Mode___init__ : Value} {od_Mode___init__ an_Mode___init__ : Option Addr} {sl_Mode___init__ : Array (Option Value)}
    (a_Mode___init__ : PySem.W.findIn K (.ref C_Mode) "__init__" = some (some (.ref f_Mode___init__))) (i_Mode___init__ : PySem.W.isFn K (.ref f_Mode___init__) = true) (l_Mode___init__ : K.lookup f_Mode___init__ = some ⟨oc_Mode___init__, od_Mode___init__, .func (PySem.W.fnOf "__init__" "Mode.__init__" (defArgs s_Mode___init__) (defBody s_Mode___init__) (defScope s_Mode___init__) .none kV_Mode___init__ dc_Mode___init__ pm_Mode___init__ an_Mode___init__ cd_Mode___init__ ct_Mode___init__), sl_Mode___init__⟩) (c_Mode___init__ : PySem.W.codeIn K cd_Mode___init__ "Mode.__init__" = true) (k_Mode___init__ : PySem.W.keepIn K (.ref f_Mode___init__) = true)
    {f_Mode_word : Addr} {oc_Mode_word kV_Mode_word dc_Mode_word pm_Mode_word cd_Mode_word ct_Mode_word : Value} {od_Mode_word an_Mode_word : Option Addr} {sl_Mode_word : Array (Option Value)} {p_Mode_word : Addr} {rs_Mode_word : List Value}
    (a_Mode_word : PySem.W.findIn K (.ref C_Mode) "word" = some (some (.ref p_Mode_word))) (g_Mode_word : PySem.W.specialIn K (.ref p_Mode_word) "__get__" = some (some (.builtin "property.__get__"))) (t_Mode_word : PySem.W.takesIn K (.ref p_Mode_word) = some true) (r_Mode_word : PySem.W.recIn K p_Mode_word "property" = some (.ref f_Mode_word :: rs_Mode_word)) (l_Mode_word : K.lookup f_Mode_word = some ⟨oc_Mode_word, od_Mode_word, .func (PySem.W.fnOf "word" "Mode.word" (defArgs s_Mode_word) (defBody s_Mode_word) (defScope s_Mode_word) .none kV_Mode_word dc_Mode_word pm_Mode_word an_Mode_word cd_Mode_word ct_Mode_word), sl_Mode_word⟩) (c_Mode_word : PySem.W.codeIn K cd_Mode_word "Mode.word" = true) (k_Mode_word : PySem.W.keepIn K (.ref f_Mode_word) = true)
    {f_Mode_rank : Addr} {oc_Mode_rank kV_Mode_rank dc_Mode_rank pm_Mode_rank cd_Mode_rank ct_Mode_rank : Value} {od_Mode_rank an_Mode_rank : Option Addr} {sl_Mode_rank : Array (Option Value)} {p_Mode_rank : Addr} {rs_Mode_rank : List Value}
    (a_Mode_rank : PySem.W.findIn K (.ref C_Mode) "rank" = some (some (.ref p_Mode_rank))) (g_Mode_rank : PySem.W.specialIn K (.ref p_Mode_rank) "__get__" = some (some (.builtin "property.__get__"))) (t_Mode_rank : PySem.W.takesIn K (.ref p_Mode_rank) = some true) (r_Mode_rank : PySem.W.recIn K p_Mode_rank "property" = some (.ref f_Mode_rank :: rs_Mode_rank)) (l_Mode_rank : K.lookup f_Mode_rank = some ⟨oc_Mode_rank, od_Mode_rank, .func (PySem.W.fnOf "rank" "Mode.rank" (defArgs s_Mode_rank) (defBody s_Mode_rank) (defScope s_Mode_rank) .none kV_Mode_rank dc_Mode_rank pm_Mode_rank an_Mode_rank cd_Mode_rank ct_Mode_rank), sl_Mode_rank⟩) (c_Mode_rank : PySem.W.codeIn K cd_Mode_rank "Mode.rank" = true) (k_Mode_rank : PySem.W.keepIn K (.ref f_Mode_rank) = true)
    {f_Mode_is_weaker : Addr} {oc_Mode_is_weaker kV_Mode_is_weaker dc_Mode_is_weaker pm_Mode_is_weaker cd_Mode_is_weaker ct_Mode_is_weaker : Value} {od_Mode_is_weaker an_Mode_is_weaker : Option Addr} {sl_Mode_is_weaker : Array (Option Value)}
    (a_Mode_is_weaker : PySem.W.findIn K (.ref C_Mode) "is_weaker" = some (some (.ref f_Mode_is_weaker))) (i_Mode_is_weaker : PySem.W.isFn K (.ref f_Mode_is_weaker) = true) (l_Mode_is_weaker : K.lookup f_Mode_is_weaker = some ⟨oc_Mode_is_weaker, od_Mode_is_weaker, .func (PySem.W.fnOf "is_weaker" "Mode.is_weaker" (defArgs s_Mode_is_weaker) (defBody s_Mode_is_weaker) (defScope s_Mode_is_weaker) .none kV_Mode_is_weaker dc_Mode_is_weaker pm_Mode_is_weaker an_Mode_is_weaker cd_Mode_is_weaker ct_Mode_is_weaker), sl_Mode_is_weaker⟩) (c_Mode_is_weaker : PySem.W.codeIn K cd_Mode_is_weaker "Mode.is_weaker" = true) (k_Mode_is_weaker : PySem.W.keepIn K (.ref f_Mode_is_weaker) = true)
    {f_Mode_clashes : Addr} {oc_Mode_clashes kV_Mode_clashes dc_Mode_clashes pm_Mode_clashes cd_Mode_clashes ct_Mode_clashes : Value} {od_Mode_clashes an_Mode_clashes : Option Addr} {sl_Mode_clashes : Array (Option Value)}
    (a_Mode_clashes : PySem.W.findIn K (.ref C_Mode) "clashes" = some (some (.ref f_Mode_clashes))) (i_Mode_clashes : PySem.W.isFn K (.ref f_Mode_clashes) = true) (l_Mode_clashes : K.lookup f_Mode_clashes = some ⟨oc_Mode_clashes, od_Mode_clashes, .func (PySem.W.fnOf "clashes" "Mode.clashes" (defArgs s_Mode_clashes) (defBody s_Mode_clashes) (defScope s_Mode_clashes) .none kV_Mode_clashes dc_Mode_clashes pm_Mode_clashes an_Mode_clashes cd_Mode_clashes ct_Mode_clashes), sl_Mode_clashes⟩) (c_Mode_clashes : PySem.W.codeIn K cd_Mode_clashes "Mode.clashes" = true) (k_Mode_clashes : PySem.W.keepIn K (.ref f_Mode_clashes) = true)
    {f_Mode___or__ : Addr} {oc_Mode___or__ kV_Mode___or__ dc_Mode___or__ pm_Mode___or__ cd_Mode___or__ ct_Mode___or__ : Value} {od_Mode___or__ an_Mode___or__ : Option Addr} {sl_Mode___or__ : Array (Option Value)}
    (a_Mode___or__ : PySem.W.findIn K (.ref C_Mode) "__or__" = some (some (.ref f_Mode___or__))) (i_Mode___or__ : PySem.W.isFn K (.ref f_Mode___or__) = true) (l_Mode___or__ : K.lookup f_Mode___or__ = some ⟨oc_Mode___or__, od_Mode___or__, .func (PySem.W.fnOf "__or__" "Mode.__or__" (defArgs s_Mode___or__) (defBody s_Mode___or__) (defScope s_Mode___or__) .none kV_Mode___or__ dc_Mode___or__ pm_Mode___or__ an_Mode___or__ cd_Mode___or__ ct_Mode___or__), sl_Mode___or__⟩) (c_Mode___or__ : PySem.W.codeIn K cd_Mode___or__ "Mode.__or__" = true) (k_Mode___or__ : PySem.W.keepIn K (.ref f_Mode___or__) = true)
    {f_Mode___eq__ : Addr} {oc_Mode___eq__ kV_Mode___eq__ dc_Mode___eq__ pm_Mode___eq__ cd_Mode___eq__ ct_Mode___eq__ : Value} {od_Mode___eq__ an_Mode___eq__ : Option Addr} {sl_Mode___eq__ : Array (Option Value)}
    (a_Mode___eq__ : PySem.W.findIn K (.ref C_Mode) "__eq__" = some (some (.ref f_Mode___eq__))) (i_Mode___eq__ : PySem.W.isFn K (.ref f_Mode___eq__) = true) (l_Mode___eq__ : K.lookup f_Mode___eq__ = some ⟨oc_Mode___eq__, od_Mode___eq__, .func (PySem.W.fnOf "__eq__" "Mode.__eq__" (defArgs s_Mode___eq__) (defBody s_Mode___eq__) (defScope s_Mode___eq__) .none kV_Mode___eq__ dc_Mode___eq__ pm_Mode___eq__ an_Mode___eq__ cd_Mode___eq__ ct_Mode___eq__), sl_Mode___eq__⟩) (c_Mode___eq__ : PySem.W.codeIn K cd_Mode___eq__ "Mode.__eq__" = true) (k_Mode___eq__ : PySem.W.keepIn K (.ref f_Mode___eq__) = true)
    {f_Mode_strongest : Addr} {oc_Mode_strongest kV_Mode_strongest dc_Mode_strongest pm_Mode_strongest cd_Mode_strongest ct_Mode_strongest : Value} {od_Mode_strongest an_Mode_strongest : Option Addr} {sl_Mode_strongest : Array (Option Value)} {p_Mode_strongest : Addr} {rs_Mode_strongest : List Value}
    (a_Mode_strongest : PySem.W.findIn K (.ref C_Mode) "strongest" = some (some (.ref p_Mode_strongest))) (t_Mode_strongest : PySem.W.typeIn K (.ref p_Mode_strongest) = some (.type "staticmethod")) (g_Mode_strongest : PySem.W.specialIn K (.ref p_Mode_strongest) "__get__" = some (some (.builtin "staticmethod.__get__"))) (u_Mode_strongest : PySem.W.takesIn K (.ref p_Mode_strongest) = some false) (r_Mode_strongest : PySem.W.recIn K p_Mode_strongest "staticmethod" = some (.ref f_Mode_strongest :: rs_Mode_strongest)) (v_Mode_strongest : PySem.W.findCls K (.ref C_Mode) (.type "type") "strongest" = some (.get (.builtin "staticmethod.__get__") (.ref p_Mode_strongest) .none (.ref C_Mode))) (l_Mode_strongest : K.lookup f_Mode_strongest = some ⟨oc_Mode_strongest, od_Mode_strongest, .func (PySem.W.fnOf "strongest" "Mode.strongest" (defArgs s_Mode_strongest) (defBody s_Mode_strongest) (defScope s_Mode_strongest) .none kV_Mode_strongest dc_Mode_strongest pm_Mode_strongest an_Mode_strongest cd_Mode_strongest ct_Mode_strongest), sl_Mode_strongest⟩) (c_Mode_strongest : PySem.W.codeIn K cd_Mode_strongest "Mode.strongest" = true) (k_Mode_strongest : PySem.W.keepIn K (.ref f_Mode_strongest) = true)
    {f__law_tape : Addr} {oc__law_tape kV__law_tape dc__law_tape pm__law_tape cd__law_tape ct__law_tape : Value} {od__law_tape an__law_tape : Option Addr} {sl__law_tape : Array (Option Value)}
    (a__law_tape : PySem.W.nsIn K mainGlobals "_law_tape" = some (some (.ref f__law_tape))) (l__law_tape : K.lookup f__law_tape = some ⟨oc__law_tape, od__law_tape, .func (PySem.W.fnOf "_law_tape" "_law_tape" (defArgs s__law_tape) (defBody s__law_tape) (defScope s__law_tape) .none kV__law_tape dc__law_tape pm__law_tape an__law_tape cd__law_tape ct__law_tape), sl__law_tape⟩) (c__law_tape : PySem.W.codeIn K cd__law_tape "_law_tape" = true) (k__law_tape : PySem.W.keepIn K (.ref f__law_tape) = true)
    {f__law_pick : Addr} {oc__law_pick kV__law_pick dc__law_pick pm__law_pick cd__law_pick ct__law_pick : Value} {od__law_pick an__law_pick : Option Addr} {sl__law_pick : Array (Option Value)}
    (a__law_pick : PySem.W.nsIn K mainGlobals "_law_pick" = some (some (.ref f__law_pick))) (l__law_pick : K.lookup f__law_pick = some ⟨oc__law_pick, od__law_pick, .func (PySem.W.fnOf "_law_pick" "_law_pick" (defArgs s__law_pick) (defBody s__law_pick) (defScope s__law_pick) .none kV__law_pick dc__law_pick pm__law_pick an__law_pick cd__law_pick ct__law_pick), sl__law_pick⟩) (c__law_pick : PySem.W.codeIn K cd__law_pick "_law_pick" = true) (k__law_pick : PySem.W.keepIn K (.ref f__law_pick) = true)
    {f__law_one_of : Addr} {oc__law_one_of kV__law_one_of dc__law_one_of pm__law_one_of cd__law_one_of ct__law_one_of : Value} {od__law_one_of an__law_one_of : Option Addr} {sl__law_one_of : Array (Option Value)}
    (a__law_one_of : PySem.W.nsIn K mainGlobals "_law_one_of" = some (some (.ref f__law_one_of))) (l__law_one_of : K.lookup f__law_one_of = some ⟨oc__law_one_of, od__law_one_of, .func (PySem.W.fnOf "_law_one_of" "_law_one_of" (defArgs s__law_one_of) (defBody s__law_one_of) (defScope s__law_one_of) .none kV__law_one_of dc__law_one_of pm__law_one_of an__law_one_of cd__law_one_of ct__law_one_of), sl__law_one_of⟩) (c__law_one_of : PySem.W.codeIn K cd__law_one_of "_law_one_of" = true) (k__law_one_of : PySem.W.keepIn K (.ref f__law_one_of) = true)
    {f__law_pairs_right : Addr} {oc__law_pairs_right kV__law_pairs_right dc__law_pairs_right pm__law_pairs_right cd__law_pairs_right ct__law_pairs_right : Value} {od__law_pairs_right an__law_pairs_right : Option Addr} {sl__law_pairs_right : Array (Option Value)}
    (a__law_pairs_right : PySem.W.nsIn K mainGlobals "_law_pairs_right" = some (some (.ref f__law_pairs_right))) (l__law_pairs_right : K.lookup f__law_pairs_right = some ⟨oc__law_pairs_right, od__law_pairs_right, .func (PySem.W.fnOf "_law_pairs_right" "_law_pairs_right" (defArgs s__law_pairs_right) (defBody s__law_pairs_right) (defScope s__law_pairs_right) .none kV__law_pairs_right dc__law_pairs_right pm__law_pairs_right an__law_pairs_right cd__law_pairs_right ct__law_pairs_right), sl__law_pairs_right⟩) (c__law_pairs_right : PySem.W.codeIn K cd__law_pairs_right "_law_pairs_right" = true) (k__law_pairs_right : PySem.W.keepIn K (.ref f__law_pairs_right) = true)
    {f__law_triples_right : Addr} {oc__law_triples_right kV__law_triples_right dc__law_triples_right pm__law_triples_right cd__law_triples_right ct__law_triples_right : Value} {od__law_triples_right an__law_triples_right : Option Addr} {sl__law_triples_right : Array (Option Value)}
    (a__law_triples_right : PySem.W.nsIn K mainGlobals "_law_triples_right" = some (some (.ref f__law_triples_right))) (l__law_triples_right : K.lookup f__law_triples_right = some ⟨oc__law_triples_right, od__law_triples_right, .func (PySem.W.fnOf "_law_triples_right" "_law_triples_right" (defArgs s__law_triples_right) (defBody s__law_triples_right) (defScope s__law_triples_right) .none kV__law_triples_right dc__law_triples_right pm__law_triples_right an__law_triples_right cd__law_triples_right ct__law_triples_right), sl__law_triples_right⟩) (c__law_triples_right : PySem.W.codeIn K cd__law_triples_right "_law_triples_right" = true) (k__law_triples_right : PySem.W.keepIn K (.ref f__law_triples_right) = true)
    {f_law : Addr} {oc_law kV_law dc_law pm_law cd_law ct_law : Value} {od_law an_law : Option Addr} {sl_law : Array (Option Value)}
    (a_law : PySem.W.nsIn K mainGlobals "law" = some (some (.ref f_law))) (l_law : K.lookup f_law = some ⟨oc_law, od_law, .func (PySem.W.fnOf "law" "law" (defArgs s_law) (defBody s_law) (defScope s_law) .none kV_law dc_law pm_law an_law cd_law ct_law), sl_law⟩) (c_law : PySem.W.codeIn K cd_law "law" = true) (k_law : PySem.W.keepIn K (.ref f_law) = true)
    (n_int : PySem.W.nsIn K mainGlobals "int" = some none) (n_len : PySem.W.nsIn K mainGlobals "len" = some none) (n_isinstance : PySem.W.nsIn K mainGlobals "isinstance" = some none) (n_str : PySem.W.nsIn K mainGlobals "str" = some none) (n_range : PySem.W.nsIn K mainGlobals "range" = some none) (n_max : PySem.W.nsIn K mainGlobals "max" = some none) (n_min : PySem.W.nsIn K mainGlobals "min" = some none) (n_list : PySem.W.nsIn K mainGlobals "list" = some none) (n_repr : PySem.W.nsIn K mainGlobals "repr" = some none) (n_enumerate : PySem.W.nsIn K mainGlobals "enumerate" = some none) :
    ∃ fd : FuncData, (∀ (s : Shared) (v : Value), BindsTo s fd ⟨[v], []⟩ [("_law_script", v)]) ∧ ∀ base : Heap, K.In base → base.Ns mainGlobals mg → FnG P w K mg base CX0 8 fa fd ["_law_script"] (spLaw K) := by
  have e := hfa.symm.trans (PySem.W.mg_of X G a_law)
  cases e
  have MG : ∀ {x : Str} {v : Value}, PySem.W.nsIn K mainGlobals x = some (some v) → mg x = some v := fun e => PySem.W.mg_of X G e
  have MN : ∀ {x : Str}, PySem.W.nsIn K mainGlobals x = some none → mg x = none := fun e => PySem.W.mg_none_of X G e
  have B : Bl mg := ⟨MN n_int, MN n_len, MN n_isinstance, MN n_str, MN n_range, MN n_max, MN n_min, MN n_list, MN n_repr, MN n_enumerate⟩
  have F_is_mode := fun_mk (st := s_is_mode) l_is_mode c_is_mode k_is_mode
  have b_is_mode := F_is_mode.binds (ps := ["value"]) fun _ _ _ _ _ _ us hl => match us, hl with | [_], _ => rfl
  have F_rank_of := fun_mk (st := s_rank_of) l_rank_of c_rank_of k_rank_of
  have b_rank_of := F_rank_of.binds (ps := ["word"]) fun _ _ _ _ _ _ us hl => match us, hl with | [_], _ => rfl
  have F_clash := fun_mk (st := s_clash) l_clash c_clash k_clash
  have b_clash := F_clash.binds (ps := ["word", "other"]) fun _ _ _ _ _ _ us hl => match us, hl with | [_, _], _ => rfl
  have F_Mode___init__ := fun_mk (st := s_Mode___init__) l_Mode___init__ c_Mode___init__ k_Mode___init__
  have b_Mode___init__ := F_Mode___init__.binds (ps := ["self", "word"]) fun _ _ _ _ _ _ us hl => match us, hl with | [_, _], _ => rfl
  have F_Mode_word := fun_mk (st := s_Mode_word) l_Mode_word c_Mode_word k_Mode_word
  have b_Mode_word := F_Mode_word.binds (ps := ["self"]) fun _ _ _ _ _ _ us hl => match us, hl with | [_], _ => rfl
  have F_Mode_rank := fun_mk (st := s_Mode_rank) l_Mode_rank c_Mode_rank k_Mode_rank
  have b_Mode_rank := F_Mode_rank.binds (ps := ["self"]) fun _ _ _ _ _ _ us hl => match us, hl with | [_], _ => rfl
  have F_Mode_is_weaker := fun_mk (st := s_Mode_is_weaker) l_Mode_is_weaker c_Mode_is_weaker k_Mode_is_weaker
  have b_Mode_is_weaker := F_Mode_is_weaker.binds (ps := ["self", "other"]) fun _ _ _ _ _ _ us hl => match us, hl with | [_, _], _ => rfl
  have F_Mode_clashes := fun_mk (st := s_Mode_clashes) l_Mode_clashes c_Mode_clashes k_Mode_clashes
  have b_Mode_clashes := F_Mode_clashes.binds (ps := ["self", "other"]) fun _ _ _ _ _ _ us hl => match us, hl with | [_, _], _ => rfl
  have F_Mode___or__ := fun_mk (st := s_Mode___or__) l_Mode___or__ c_Mode___or__ k_Mode___or__
  have b_Mode___or__ := F_Mode___or__.binds (ps := ["self", "other"]) fun _ _ _ _ _ _ us hl => match us, hl with | [_, _], _ => rfl
  have F_Mode___eq__ := fun_mk (st := s_Mode___eq__) l_Mode___eq__ c_Mode___eq__ k_Mode___eq__
  have b_Mode___eq__ := F_Mode___eq__.binds (ps := ["self", "other"]) fun _ _ _ _ _ _ us hl => match us, hl with | [_, _], _ => rfl
  have F_Mode_strongest := fun_mk (st := s_Mode_strongest) l_Mode_strongest c_Mode_strongest k_Mode_strongest
  have b_Mode_strongest := F_Mode_strongest.binds (ps := ["words"]) fun _ _ _ _ _ _ us hl => match us, hl with | [_], _ => rfl
  have F__law_tape := fun_mk (st := s__law_tape) l__law_tape c__law_tape k__law_tape
  have b__law_tape := F__law_tape.binds (ps := ["_law_script", "_law_start"]) fun _ _ _ _ _ _ us hl => match us, hl with | [_, _], _ => rfl
  have F__law_pick := fun_mk (st := s__law_pick) l__law_pick c__law_pick k__law_pick
  have b__law_pick := F__law_pick.binds (ps := ["_law_tape_here", "_law_many"]) fun _ _ _ _ _ _ us hl => match us, hl with | [_, _], _ => rfl
  have F__law_one_of := fun_mk (st := s__law_one_of) l__law_one_of c__law_one_of k__law_one_of
  have b__law_one_of := F__law_one_of.binds (ps := ["_law_tape_here", "_law_items"]) fun _ _ _ _ _ _ us hl => match us, hl with | [_, _], _ => rfl
  have F__law_pairs_right := fun_mk (st := s__law_pairs_right) l__law_pairs_right c__law_pairs_right k__law_pairs_right
  have b__law_pairs_right := F__law_pairs_right.binds (ps := ["_law_grades"]) fun _ _ _ _ _ _ us hl => match us, hl with | [_], _ => rfl
  have F__law_triples_right := fun_mk (st := s__law_triples_right) l__law_triples_right c__law_triples_right k__law_triples_right
  have b__law_triples_right := F__law_triples_right.binds (ps := ["_law_grades"]) fun _ _ _ _ _ _ us hl => match us, hl with | [_], _ => rfl
  have F_law := fun_mk (st := s_law) l_law c_law k_law
  have b_law := F_law.binds (ps := ["_law_script"]) fun _ _ _ _ _ _ us hl => match us, hl with | [_], _ => rfl
  have w_init : Kw1 _ ["self", "word"] 1 "word" := ⟨fun s us w h => match us, h with | [_], _ => .of_eq (fd := PySem.W.fnOf "__init__" "Mode.__init__" (defArgs s_Mode___init__) (defBody s_Mode___init__) (defScope s_Mode___init__) .none kV_Mode___init__ dc_Mode___init__ pm_Mode___init__ an_Mode___init__ cd_Mode___init__ ct_Mode___init__) rfl⟩
  have w_weak : Kw1 _ ["self", "other"] 1 "other" := ⟨fun s us w h => match us, h with | [_], _ => .of_eq (fd := PySem.W.fnOf "is_weaker" "Mode.is_weaker" (defArgs s_Mode_is_weaker) (defBody s_Mode_is_weaker) (defScope s_Mode_is_weaker) .none kV_Mode_is_weaker dc_Mode_is_weaker pm_Mode_is_weaker an_Mode_is_weaker cd_Mode_is_weaker ct_Mode_is_weaker) rfl⟩
  have w_clash : Kw1 _ ["self", "other"] 1 "other" := ⟨fun s us w h => match us, h with | [_], _ => .of_eq (fd := PySem.W.fnOf "clashes" "Mode.clashes" (defArgs s_Mode_clashes) (defBody s_Mode_clashes) (defScope s_Mode_clashes) .none kV_Mode_clashes dc_Mode_clashes pm_Mode_clashes an_Mode_clashes cd_Mode_clashes ct_Mode_clashes) rfl⟩
  have w_str : Kw1 _ ["words"] 0 "words" := ⟨fun s us w h => match us, h with | [], _ => .of_eq (fd := PySem.W.fnOf "strongest" "Mode.strongest" (defArgs s_Mode_strongest) (defBody s_Mode_strongest) (defScope s_Mode_strongest) .none kV_Mode_strongest dc_Mode_strongest pm_Mode_strongest an_Mode_strongest cd_Mode_strongest ct_Mode_strongest) rfl⟩
  have RK : Rk w K mg R := rk_of (MG r_g) r_low r_l
  have MC : MdC K C_Mode := ⟨⟨⟨m_pg, m_hd, m_po, m_sa⟩, m_ty, m_ha, m_hn, m_ht, m_hm⟩, m_nw⟩
  refine ⟨PySem.W.fnOf "law" "law" (defArgs s_law) (defBody s_law) (defScope s_law) .none kV_law dc_law pm_law an_law cd_law ct_law, fun s v => .of_eq rfl, fun base _ _ => ?_⟩
  have D_is_mode : Ce P w K mg base CX0 1 "is_mode" ["value"] (spIs K) := ⟨_, _, MG a_is_mode, k_is_mode, b_is_mode, ok_is F_is_mode B RK⟩
  have D_rank_of : Ce P w K mg base CX0 1 "rank_of" ["word"] spRank := ⟨_, _, MG a_rank_of, k_rank_of, b_rank_of, ok_rank F_rank_of RK⟩
  have Mm : Mk K C_Mode f_Mode___init__ := ⟨m_mk, a_Mode___init__, i_Mode___init__, m_k⟩
  have ok_init := ok_newQ (P := P) (w := w) (mg := mg) (base := base) F_Mode___init__ MC D_is_mode
  have D_Mode : Cn P w K mg base CX0 2 "Mode" C_Mode ["self", "word"] (spModeQ K C_Mode) := ⟨_, _, MG m_g, Mm, b_Mode___init__, ok_init⟩
  have K_Mode : CnK P w K mg base CX0 2 "Mode" C_Mode ["self", "word"] "word" (spModeQ K C_Mode) := ⟨_, _, MG m_g, Mm, w_init, ok_init⟩
  have P_Mode_word : Cp P w K mg base CX0 1 C_Mode "word" (spWord C_Mode) := ⟨_, _, _, MC.oc.cls, ⟨a_Mode_word, g_Mode_word, t_Mode_word, ⟨_, r_Mode_word⟩⟩, b_Mode_word, ok_word F_Mode_word MC⟩
  have P_Mode_rank : Cp P w K mg base CX0 2 C_Mode "rank" (spRk C_Mode) := ⟨_, _, _, MC.oc.cls, ⟨a_Mode_rank, g_Mode_rank, t_Mode_rank, ⟨_, r_Mode_rank⟩⟩, b_Mode_rank, ok_rk F_Mode_rank MC D_rank_of⟩
  have weak := ok_weaker F_Mode_is_weaker P_Mode_rank
  have D_clash : Ce P w K mg base CX0 1 "clash" ["word", "other"] spClash := ⟨_, _, MG a_clash, k_clash, b_clash, ok_clash F_clash RK (MG r_c)⟩
  have clash := ok_clashes F_Mode_clashes D_clash P_Mode_word
  have M_w : Cm P w K mg base CX0 4 C_Mode "is_weaker" ["self", "other"] (spWk C_Mode) := ⟨_, _, MC.oc.cls, ⟨a_Mode_is_weaker, i_Mode_is_weaker, k_Mode_is_weaker⟩, b_Mode_is_weaker, weak⟩
  have K_w : CmK P w K mg base CX0 4 C_Mode "is_weaker" ["self", "other"] "other" (spWk C_Mode) := ⟨_, _, MC.oc.cls, ⟨a_Mode_is_weaker, i_Mode_is_weaker, k_Mode_is_weaker⟩, w_weak, weak⟩
  have M_c : Cm P w K mg base CX0 4 C_Mode "clashes" ["self", "other"] (spCl C_Mode) := ⟨_, _, MC.oc.cls, ⟨a_Mode_clashes, i_Mode_clashes, k_Mode_clashes⟩, b_Mode_clashes, clash⟩
  have K_c : CmK P w K mg base CX0 4 C_Mode "clashes" ["self", "other"] "other" (spCl C_Mode) := ⟨_, _, MC.oc.cls, ⟨a_Mode_clashes, i_Mode_clashes, k_Mode_clashes⟩, w_clash, clash⟩
  have M_o : Cm P w K mg base CX0 5 C_Mode "__or__" ["self", "other"] (spOr C_Mode) := ⟨_, _, MC.oc.cls, ⟨a_Mode___or__, i_Mode___or__, k_Mode___or__⟩, b_Mode___or__, ok_or F_Mode___or__ M_w⟩
  have OE : OwnE P w K mg base 1 C_Mode (spEqM K C_Mode) := ⟨⟨_, _, _, a_Mode___eq__, i_Mode___eq__, b_Mode___eq__, ok_eq F_Mode___eq__ B MC (MG m_g)⟩, s_list, s_tuple, s_dict, s_int, s_bool, s_str, s_NoneType⟩
  have S_s : Cs P w K mg base CX0 3 C_Mode "strongest" ["words"] "words" (spStr K) :=
    ⟨_, _, ⟨m_ga, MC.oc.cls, m_ty, m_rd, ⟨_, _, v_Mode_strongest, r_Mode_strongest, a_Mode_strongest, t_Mode_strongest, g_Mode_strongest, u_Mode_strongest⟩, by decide +kernel, k_Mode_strongest⟩, b_Mode_strongest, w_str, ok_strongest F_Mode_strongest B D_rank_of⟩
  have D__law_tape : Ce P w K mg base CX0 1 "_law_tape" ["_law_script", "_law_start"] (spTape K) := ⟨_, _, MG a__law_tape, k__law_tape, b__law_tape, ok_tape F__law_tape B⟩
  have D__law_pick : Ce P w K mg base CX0 1 "_law_pick" ["_law_tape_here", "_law_many"] spPick := ⟨_, _, MG a__law_pick, k__law_pick, b__law_pick, ok_pick F__law_pick B⟩
  have D__law_one_of : Ce P w K mg base CX0 2 "_law_one_of" ["_law_tape_here", "_law_items"] (spOne K) := ⟨_, _, MG a__law_one_of, k__law_one_of, b__law_one_of, ok_one F__law_one_of B D__law_pick⟩
  have D_pairs : Ce P w K mg base CX0 7 "_law_pairs_right" ["_law_grades"] (spGr K) := ⟨_, _, MG a__law_pairs_right, k__law_pairs_right, b__law_pairs_right, ok_pairs F__law_pairs_right B MC (MG m_g) D_Mode K_Mode P_Mode_word P_Mode_rank M_w K_w M_c K_c M_o m_sf⟩
  have D_triples : Ce P w K mg base CX0 7 "_law_triples_right" ["_law_grades"] (spGr K) := ⟨_, _, MG a__law_triples_right, k__law_triples_right, b__law_triples_right, ok_triples F__law_triples_right B MC m_ne OE D_Mode P_Mode_word M_o m_sf⟩
  exact ok_law F_law B MC (MG m_g) D__law_tape D__law_pick D__law_one_of D_pairs D_triples D_Mode S_s
end K02
open PySem PySem.W PyProof.Rows
set_option maxRecDepth 100000 in
set_option maxHeartbeats 0 in
theorem PySem.Challenge.cw_rowmarks_k02_modes_compared_holds : PySem.Challenge.rw_rowmarks_k02_modes_compared.Holds := by
  w_on; o_law; k_head; (case hw => w_witness2)
  k_fill
  refine Rm.walkG (l := PySem.Challenge.rw_rowmarks_k02_modes_compared) (k := 8) rfl rfl ⟨rfl, by decide, by decide⟩ (fun w h Y => PySem.W.kIn_of Y) ?F
  case F =>
    intro w mg fa h KX G hmg
    refine' K02.all_mk (P := PySem.Challenge.pw_rowmarks_k02_modes_compared) KX G hmg
      ?r_g ?r_l ?r_low ?r_c ?m_g ?m_pg ?m_hd ?m_po ?m_sa ?m_mk ?m_k ?m_ty ?m_ha ?m_hn ?m_ht ?m_hm ?m_nw ?m_ne ?m_sf ?m_ga ?m_rd ?s_list ?s_tuple ?s_dict ?s_int ?s_bool ?s_str ?s_NoneType
      ?a_is_mode ?l_is_mode ?c_is_mode ?k_is_mode ?a_rank_of ?l_rank_of ?c_rank_of ?k_rank_of ?a_clash ?l_clash ?c_clash ?k_clash ?a_Mode___init__ ?i_Mode___init__ ?l_Mode___init__ ?c_Mode___init__ ?k_Mode___init__ ?a_Mode_word ?g_Mode_word ?t_Mode_word ?r_Mode_word ?l_Mode_word ?c_Mode_word ?k_Mode_word ?a_Mode_rank ?g_Mode_rank ?t_Mode_rank ?r_Mode_rank ?l_Mode_rank ?c_Mode_rank ?k_Mode_rank ?a_Mode_is_weaker ?i_Mode_is_weaker ?l_Mode_is_weaker ?c_Mode_is_weaker ?k_Mode_is_weaker ?a_Mode_clashes ?i_Mode_clashes ?l_Mode_clashes ?c_Mode_clashes ?k_Mode_clashes ?a_Mode___or__ ?i_Mode___or__ ?l_Mode___or__ ?c_Mode___or__ ?k_Mode___or__ ?a_Mode___eq__ ?i_Mode___eq__ ?l_Mode___eq__ ?c_Mode___eq__ ?k_Mode___eq__ ?a_Mode_strongest ?t_Mode_strongest ?g_Mode_strongest ?u_Mode_strongest ?r_Mode_strongest ?v_Mode_strongest ?l_Mode_strongest ?c_Mode_strongest ?k_Mode_strongest ?a__law_tape ?l__law_tape ?c__law_tape ?k__law_tape ?a__law_pick ?l__law_pick ?c__law_pick ?k__law_pick ?a__law_one_of ?l__law_one_of ?c__law_one_of ?k__law_one_of ?a__law_pairs_right ?l__law_pairs_right ?c__law_pairs_right ?k__law_pairs_right ?a__law_triples_right ?l__law_triples_right ?c__law_triples_right ?k__law_triples_right ?a_law ?l_law ?c_law ?k_law ?n_int ?n_len ?n_isinstance ?n_str ?n_range ?n_max ?n_min ?n_list ?n_repr ?n_enumerate
    (case r_g => k_is); (case r_l => k_is); (case r_low => first | rfl | decide +kernel); (case r_c => k_is)
    (case m_g => k_is); (case m_pg => k_is); (case m_hd => k_is); (case m_po => k_is); (case m_sa => k_is); (case m_mk => k_is); (case m_k => k_is); (case m_ty => k_is); (case m_ha => k_is)
    (case m_hn => k_is); (case m_ht => k_is); (case m_hm => k_is); (case m_nw => k_is); (case m_ne => k_is); (case m_sf => k_is); (case m_ga => k_is); (case m_rd => k_is)
    (case s_list => k_is); (case s_tuple => k_is); (case s_dict => k_is); (case s_int => k_is); (case s_bool => k_is); (case s_str => k_is); (case s_NoneType => k_is)
    (case a_is_mode => k_is); (case l_is_mode => k_is); (case c_is_mode => k_is); (case k_is_mode => k_is)
    (case a_rank_of => k_is); (case l_rank_of => k_is); (case c_rank_of => k_is); (case k_rank_of => k_is)
    (case a_clash => k_is); (case l_clash => k_is); (case c_clash => k_is); (case k_clash => k_is)
    (case a_Mode___init__ => k_is); (case i_Mode___init__ => k_is); (case l_Mode___init__ => k_is); (case c_Mode___init__ => k_is); (case k_Mode___init__ => k_is)
    (case a_Mode_word => k_is); (case g_Mode_word => k_is); (case t_Mode_word => k_is); (case r_Mode_word => k_is); (case l_Mode_word => k_is); (case c_Mode_word => k_is); (case k_Mode_word => k_is)
    (case a_Mode_rank => k_is); (case g_Mode_rank => k_is); (case t_Mode_rank => k_is); (case r_Mode_rank => k_is); (case l_Mode_rank => k_is); (case c_Mode_rank => k_is); (case k_Mode_rank => k_is)
    (case a_Mode_is_weaker => k_is); (case i_Mode_is_weaker => k_is); (case l_Mode_is_weaker => k_is); (case c_Mode_is_weaker => k_is); (case k_Mode_is_weaker => k_is)
    (case a_Mode_clashes => k_is); (case i_Mode_clashes => k_is); (case l_Mode_clashes => k_is); (case c_Mode_clashes => k_is); (case k_Mode_clashes => k_is)
    (case a_Mode___or__ => k_is); (case i_Mode___or__ => k_is); (case l_Mode___or__ => k_is); (case c_Mode___or__ => k_is); (case k_Mode___or__ => k_is)
    (case a_Mode___eq__ => k_is); (case i_Mode___eq__ => k_is); (case l_Mode___eq__ => k_is); (case c_Mode___eq__ => k_is); (case k_Mode___eq__ => k_is)
    (case a_Mode_strongest => k_is); (case t_Mode_strongest => k_is); (case g_Mode_strongest => k_is); (case u_Mode_strongest => k_is); (case r_Mode_strongest => k_is); (case v_Mode_strongest => k_is); (case l_Mode_strongest => k_is); (case c_Mode_strongest => k_is); (case k_Mode_strongest => k_is)
    (case a__law_tape => k_is); (case l__law_tape => k_is); (case c__law_tape => k_is); (case k__law_tape => k_is)
    (case a__law_pick => k_is); (case l__law_pick => k_is); (case c__law_pick => k_is); (case k__law_pick => k_is)
    (case a__law_one_of => k_is); (case l__law_one_of => k_is); (case c__law_one_of => k_is); (case k__law_one_of => k_is)
    (case a__law_pairs_right => k_is); (case l__law_pairs_right => k_is); (case c__law_pairs_right => k_is); (case k__law_pairs_right => k_is)
    (case a__law_triples_right => k_is); (case l__law_triples_right => k_is); (case c__law_triples_right => k_is); (case k__law_triples_right => k_is)
    (case a_law => k_is); (case l_law => k_is); (case c_law => k_is); (case k_law => k_is)
    (case n_int => k_is); (case n_len => k_is); (case n_isinstance => k_is); (case n_str => k_is); (case n_range => k_is); (case n_max => k_is); (case n_min => k_is); (case n_list => k_is); (case n_repr => k_is); (case n_enumerate => k_is)

