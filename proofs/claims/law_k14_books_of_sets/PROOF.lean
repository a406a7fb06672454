import PyProof.Rows.All
import Wide.All
import OpenK.AllK
import Wide.FinOn
import HandS.ForMost
import HandS.ForExc
import HandS.ExcInit
import HandS.WideBits
import HandS.EndBits
import HandS.Property
import HandS.OwnEq
import HandS.Conv
import HandS.IsInst
import HandS.MakeKw
import HandS.Style
import HandS.RaiseMore
import PyProof.ReprLen
import KE.KExcSuper
import HandS.ExcField
import HandS.TryOnly
import HandS.TryMany
import HandS.CallSlots
import HandS.More
import HandS.Ends
import KE.KMethU
import KE.KMinKey
import HandS.SortKw
import KE.KRevSl
import HandS.ExcIs
import HandS.SetFor
import KE.KDictLaws
import HandS.Text
import HandS.Lambda
import HandS.EndTab
import HandS.StrMore
import HandS.Walk
import KE.GoesEnum
import KE.IntTextLaws
import KE.IntTextText
import PyProof.Rows.StrDigitsNeg
import PyProof.Rows.ReprOcc
import KE.LtData
import KE.GoesZip
import KE.KUnpackStar
import HandS.Zip
import HandS.DictEq
import PySem.Challenge.RW_rowmarks_k14_books_of_sets
set_option Elab.async false
set_option linter.all false
set_option maxRecDepth 100000
set_option maxHeartbeats 4000000
namespace Rm
open PySem PySem.Spec L2
open PyProof.Rows hiding St

/-! ### promises of defs that know that no display is being written -/
def Gd (A : Around) : Prop := A.guards = some []
theorem Gd.deeper {A : Around} (h : Gd A) (e : Env) : Gd (A.deeper e) := h
theorem Gd.in1 {A : Around} (h : Gd A) : Gd A.in1 := h
theorem Gd.make {A : Around} (h : Gd A) (C : Addr) (us : List Value)
    (kw : List (Str × Value)) : Gd (A.under (.builtin "type.__call__" ⟨.ref C :: us, kw⟩)) := by
  have e : Code.guards (.builtin "type.__call__" ⟨.ref C :: us, kw⟩) = [] := by
    unfold Code.guards Code.isGuard
    exact if_neg (show ¬ (guardIds.contains "type.__call__" = true) by decide +kernel)
  unfold Gd Around.under
  dsimp only
  rw [e]
  exact h

structure FnG (P : Program) (w : World) (K : PySem.W.Frag)
    (mg : Str → Option Value) (base : Heap) (CX : CXT) (k : Nat)
    (f : Addr) (fd : FuncData) (ps : List Str) (sp : Sp) : Prop where
  len : ∀ vs H Q E, sp vs H Q E → vs.length = ps.length
  run : ∀ (A : Around) (outer : List Env) (s : Shared) (H : Hp) (ar : Args)
    (us : List Value) (vs : List V) (Q : VK) (E : XK), Room k A → Gd A →
    Env0 P w K mg base A outer s H → BindsTo s fd ar (ps.zip us) → Vals vs us →
    sp vs H Q E →
    codeAny (model P w) A (.call (.ref f) ar) (CR CX outer P w H s Q E) s

section
variable {P : Program} {w : World} {K : PySem.W.Frag}
variable {mg : Str → Option Value} {base : Heap} {CX : CXT} {k j : Nat}
variable {f : Addr} {fd : FuncData} {ps : List Str} {sp sp' : Sp}
theorem FnG.of (F : FnOk P w K mg base CX k f fd ps sp) : FnG P w K mg base CX k f fd ps sp :=
  ⟨F.len, fun A outer s H ar us vs Q E hr _ => F.run A outer s H ar us vs Q E hr⟩
theorem FnG.mono (F : FnG P w K mg base CX j f fd ps sp) (h : j ≤ k) : FnG P w K mg base CX k f fd ps sp :=
  ⟨F.len, fun A outer s H ar us vs Q E hr => F.run A outer s H ar us vs Q E (hr.mono h)⟩
theorem FnG.imp (F : FnG P w K mg base CX k f fd ps sp)
    (h : ∀ vs H Q E, sp' vs H Q E → sp vs H Q E) : FnG P w K mg base CX k f fd ps sp' :=
  ⟨fun vs H Q E q => F.len vs H Q E (h _ _ _ _ q),
    fun A outer s H ar us vs Q E hr hg e0 hb hv hs =>
      F.run A outer s H ar us vs Q E hr hg e0 hb hv (h _ _ _ _ hs)⟩
end

/-! ### calls -/
section
variable {X : Cx} {CX : CXT} {k : Nat} {f C : Addr} {fd : FuncData} {ps : List Str} {sp : Sp}
variable {dvs : List V} {ds : List Value} {E : XK} {x m : Str} {p pos apos : Pos} {e o : Expr}
variable {es : List Expr} {ta : TE} {t : TA}

/-- behind a callee's end -/
theorem came {pins : List (Addr × Obj)} {σ : St} {H : Hp} {s s' : Shared} {Q : VK} {r : Result}
    (hx : Passes CX X E) (I : Inv X pins σ H s)
    (hq : CR CX X.stack X.prog X.w H s Q E r s') :
    wants (EP X pins σ Q) X.xe r s' := by
  match r, hq with
  | .error e, hq => exact hx pins σ H s e s' I hq
  | .ok (.ret u), hq => exact I.after hq
  | .ok .next, hq => exact False.elim hq
  | .ok .brk, hq => exact False.elim hq
  | .ok .cont, hq => exact False.elim hq

theorem goes {pins : List (Addr × Obj)} {σ : St} {H : Hp} {s : Shared} {Q : VK}
    {us : List Value} {vs : List V}
    (F : FnG X.prog X.w X.K X.mg X.base CX k f fd ps sp) (hr : Room k X.A) (hG : Gd X.A)
    (hb : Binds X.K fd ps ds) (hd : Vals dvs ds) (hx : Passes CX X E)
    (I : Inv X pins σ H s) (r : Vals vs us) (h : sp (vs ++ dvs) H Q E) :
    wpAny (model X.prog X.w) X.A (call (.ref f) us) (EP X pins σ Q) X.xe s := by
  have both := r.append hd
  have hl : (us ++ ds).length = ps.length := both.length.symm.trans (F.len _ _ _ _ h)
  exact wpAny_call (codeAny_mono (F.run X.A X.stack s H ⟨us, []⟩ _ _ Q E hr hG I.env0
    (hb s us I.kIn hl) both h) fun r s' hq => came hx I hq)

theorem pe_fn (F : FnG X.prog X.w X.K X.mg X.base CX k f fd ps sp) (hr : Room k X.A) (hG : Gd X.A)
    (hg : Gl X x) (hm : X.mg x = some (.ref f)) (hk : PySem.W.keepIn X.K (.ref f) = true)
    (hb : Binds X.K fd ps ds) (hd : Vals dvs ds) (hx : Passes CX X E) (ha : PA X (e :: es) t)
    (hdb : (x == ("__debug__" : Str)) = false := by decide)
    (he : starEach (e :: es) X.env = (false, eval e X.env) :: starEach es X.env := by rfl)
    (hpl : (backTo pos (starEach es X.env)).any (·.1) = false := by rfl) :
    PE X (.Call (.Name x p) (e :: es) [] pos) (tCall sp dvs E t) :=
  ⟨fun pins s σ H Q I h => wpAny_Call_Name_kw (ld_glob I hg hm
    (PySem.W.callWith_K (h₀ := X.base) I.ok.mod.kin hk
      (thn (ha.run pos pins s σ H _ I h) fun us s1 ⟨vs, H1, I1, r, q⟩ =>
        ⟨I1.kIn, goes F hr hG hb hd hx I1 r q⟩) he hpl) hdb)⟩

theorem pe_fn0 (F : FnG X.prog X.w X.K X.mg X.base CX k f fd ps sp) (hr : Room k X.A) (hG : Gd X.A)
    (hg : Gl X x) (hm : X.mg x = some (.ref f)) (hk : PySem.W.keepIn X.K (.ref f) = true)
    (hb : Binds X.K fd ps ds) (hd : Vals dvs ds) (hx : Passes CX X E)
    (hdb : (x == ("__debug__" : Str)) = false := by decide) :
    PE X (.Call (.Name x p) [] [] pos) (tCall sp dvs E tNil) :=
  ⟨fun pins s σ H Q I h => wpAny_Call_Name_kw (ld_glob I hg hm
    (PySem.W.callWith_K0 I.kIn hk (goes (us := []) F hr hG hb hd hx I .nil h)) hdb)⟩

theorem pe_mth {pl : Sem Bool} (he : PE X o ta) (c : Cls X.K C) (hm : Meth X.K C m f)
    (F : FnG X.prog X.w X.K X.mg X.base CX k f fd ps sp) (hr : Room k X.A) (hG : Gd X.A)
    (hb : Binds X.K fd ps ds) (hd : Vals dvs ds) (hx : Passes CX X E) (ha : PA X (e :: es) t)
    (hst : starEach (e :: es) X.env = (false, eval e X.env) :: starEach es X.env := by rfl)
    (hpl : (backTo pos (starEach es X.env)).any (·.1) = false := by rfl)
    (ht : eval (.Call (.Attribute o m apos) (e :: es) [] pos) X.env = (do
      let ov ← eval o X.env
      standAt apos.atName
      let (g, first) ← holding [ov] (getMethod ov m pl)
      callWith pos g first (backTo pos (starEach (e :: es) X.env))
        (backToKw pos (keywordEach [] X.env))) := by rfl) :
    PE X (.Call (.Attribute o m apos) (e :: es) [] pos) (tMeth C m sp dvs E ta t) := by
  constructor
  intro pins s σ H Q I h
  refine PySem.W.methodCall_KW (pl := pl)
    (thn (he.run pins s σ H _ I h) fun u s1 ⟨y, H1, I1, ry, a, dx, fs, ey, ea, l, q⟩ => ?_) ht
  obtain rfl := ey
  have ru : u = Value.ref a := ry
  rw [ru]
  exact getmeth_ok I1 ea c hm l (PySem.W.callWith_K (first := [.ref a]) (h₀ := X.base)
    I.ok.mod.kin hm.kp (thn (ha.run pos pins s1 σ H1 _ I1 q) fun us s2 ⟨vs, H2, I2, r, q2⟩ =>
      ⟨I2.kIn, goes (us := .ref a :: us) (vs := .ref a :: vs) F hr hG hb hd hx I2 (.cons rfl r) q2⟩) hst hpl)

theorem pe_mth0 {pl : Sem Bool} (he : PE X o ta) (c : Cls X.K C) (hm : Meth X.K C m f)
    (F : FnG X.prog X.w X.K X.mg X.base CX k f fd ps sp) (hr : Room k X.A) (hG : Gd X.A)
    (hb : Binds X.K fd ps ds) (hd : Vals dvs ds) (hx : Passes CX X E)
    (ht : eval (.Call (.Attribute o m apos) [] [] pos) X.env = (do
      let ov ← eval o X.env
      standAt apos.atName
      let (g, first) ← holding [ov] (getMethod ov m pl)
      callWith pos g first (backTo pos (starEach [] X.env))
        (backToKw pos (keywordEach [] X.env))) := by rfl) :
    PE X (.Call (.Attribute o m apos) [] [] pos) (tMeth C m sp dvs E ta tNil) := by
  constructor
  intro pins s σ H Q I h
  refine PySem.W.methodCall_KW (pl := pl)
    (thn (he.run pins s σ H _ I h) fun u s1 ⟨y, H1, I1, ry, a, dx, fs, ey, ea, l, q⟩ => ?_) ht
  obtain rfl := ey
  have ru : u = Value.ref a := ry
  rw [ru]
  exact getmeth_ok I1 ea c hm l (PySem.W.callWith_K0 (first := [.ref a]) I1.kIn hm.kp
    (goes (us := [.ref a]) (vs := [.ref a]) F hr hG hb hd hx I1 (.cons rfl .nil) q))

/-! ### a new instance -/
theorem grows {pins : List (Addr × Obj)} {σ : St} {H : Hp} {s : Shared} {Q : VK}
    {us : List Value} {vs : List V} (M : Mk X.K C f)
    (F : FnG X.prog X.w X.K X.mg X.base CX k f fd ps sp) (hr : Room (k + 1) X.A) (hG : Gd X.A)
    (hb : Binds X.K fd ps ds) (hd : Vals dvs ds) (hx : Passes CX X E)
    (I : Inv X pins σ H s) (r : Vals vs us)
    (h : ∀ y dx, H y = none → H dx = none → dx ≠ y →
      sp (.ref y :: (vs ++ dvs)) (upd (upd H dx (.own y)) y (.ins C dx []))
        (fun v H2 => v = .non ∧ Q (.ref y) H2) E) :
    wpAny (model X.prog X.w) X.A (call (.ref C) us) (EP X pins σ Q) X.xe s := by
  have n1 : H (s.heap.objs.size + 1) = none := I.hok.fresh (Nat.le_succ _)
  have n0 : H s.heap.objs.size = none := I.hok.fresh (Nat.le_refl _)
  have hq := h _ _ n1 n0 (Nat.ne_of_lt (Nat.lt_succ_self _))
  have I2 := Inv.made (C := C) I
  have both : Vals (V.ref (s.heap.objs.size + 1) :: (vs ++ dvs))
      (Value.ref (s.heap.objs.size + 1) :: (us ++ ds)) := .cons rfl (r.append hd)
  have hl : (Value.ref (s.heap.objs.size + 1) :: us ++ ds).length = ps.length :=
    both.length.symm.trans (F.len _ _ _ _ hq)
  refine wpAny_call (make_map (f := f) I.kIn M.makes M.init (beq_iff_eq.mp M.fn)
    (codeAny_mono (F.run _ X.stack _ _ ⟨Value.ref (s.heap.objs.size + 1) :: us, []⟩ _ _ _ E
      (hr.make C us []) (hG.make C us []) (I2.env0.make C us [])
      (hb _ (Value.ref (s.heap.objs.size + 1) :: us) I2.kIn hl) both hq) fun r s' hq' => ?_))
  match r, hq' with
  | .error er, hq' => exact hx pins σ _ _ er s' I2 hq'
  | .ok (.ret u), hq' =>
    obtain ⟨v, H', I3, rv, ev, q3⟩ := I2.after hq'
    subst ev
    exact ⟨rv, V.ref (s.heap.objs.size + 1), H', I3, rfl, q3⟩
  | .ok .next, hq' => exact False.elim hq'
  | .ok .brk, hq' => exact False.elim hq'
  | .ok .cont, hq' => exact False.elim hq'

theorem pe_new (M : Mk X.K C f) (F : FnG X.prog X.w X.K X.mg X.base CX k f fd ps sp)
    (hr : Room (k + 1) X.A) (hG : Gd X.A) (hg : Gl X x) (hm : X.mg x = some (.ref C))
    (hb : Binds X.K fd ps ds) (hd : Vals dvs ds) (hx : Passes CX X E) (ha : PA X (e :: es) t)
    (hdb : (x == ("__debug__" : Str)) = false := by decide)
    (he : starEach (e :: es) X.env = (false, eval e X.env) :: starEach es X.env := by rfl)
    (hpl : (backTo pos (starEach es X.env)).any (·.1) = false := by rfl) :
    PE X (.Call (.Name x p) (e :: es) [] pos) (tMake C sp dvs E t) :=
  ⟨fun pins s σ H Q I h => wpAny_Call_Name_kw (ld_glob I hg hm
    (PySem.W.callWith_K (h₀ := X.base) I.ok.mod.kin M.kp
      (thn (ha.run pos pins s σ H _ I h) fun us s1 ⟨vs, H1, I1, r, q⟩ =>
        ⟨I1.kIn, grows M F hr hG hb hd hx I1 r q⟩) he hpl) hdb)⟩

theorem pe_new0 (M : Mk X.K C f) (F : FnG X.prog X.w X.K X.mg X.base CX k f fd ps sp)
    (hr : Room (k + 1) X.A) (hG : Gd X.A) (hg : Gl X x) (hm : X.mg x = some (.ref C))
    (hb : Binds X.K fd ps ds) (hd : Vals dvs ds) (hx : Passes CX X E)
    (hdb : (x == ("__debug__" : Str)) = false := by decide) :
    PE X (.Call (.Name x p) [] [] pos) (tMake C sp dvs E tNil) :=
  ⟨fun pins s σ H Q I h => wpAny_Call_Name_kw (ld_glob I hg hm
    (PySem.W.callWith_K0 I.kIn M.kp (grows (us := []) M F hr hG hb hd hx I .nil h)) hdb)⟩
end

/-! ### a def by its body -/
section
variable {P : Program} {w : World} {K : PySem.W.Frag} {mg : Str → Option Value} {base : Heap}
theorem fn_in {CX : CXT} {x qual : Str} {st : Stmt} {f : Addr} {fd : FuncData} {N ps : List Str}
    {k : Nat} {sp : Sp} (F : Fun K x qual st f fd) (S : FnScope N ps (defScope st))
    (len : ∀ vs H Q E, sp vs H Q E → vs.length = ps.length)
    (body : ∀ (cdv : Value) (A : Around) (outer : List Env) (s : Shared) (H : Hp) (vs : List V)
        (Q : VK) (E : XK), Room k (A.deeper (envOfC qual (defScope st) s.heap.objs.size f cdv)) →
      Gd (A.deeper (envOfC qual (defScope st) s.heap.objs.size f cdv)) → sp vs H Q E →
      ∃ t, PSs (cxOf CX P w K mg base N qual (defScope st) f cdv A outer s H E) (defBody st) t ∧
        t { nx := fun _ H' => Q .non H', rt := Q } (start N vs) H) :
    FnG P w K mg base CX (k + 1) f fd ps sp := by
  obtain ⟨oc, od, kV, doc, pm, an, cdv, ct, osl, rfl, lk, hcd⟩ := F.ex
  refine ⟨len, fun A outer s H ar us vs Q E hr hG e0 hb r hsp => ?_⟩
  have hl := len _ _ _ _ hsp
  have up : ∀ b o, base.get? b = some o → s.heap.get? b = some o := fun b o e => (e0.bs b o e).1
  have KX : K.In s.heap := e0.mod.kin.keeps up
  have lim : s.heap.NoLimit := e0.mod.nolimit.keeps up
  refine codeAny_call_function hr.depth (KX _ _ lk) rfl S.co S.gen rfl
    (PySem.W.codeRec_of KX hcd) (hb _ _ _ _ ?_)
  refine wpAny_newFunctionEnv_cells S.kind (fun ⟨n, v⟩ hy => ?_) fun env he s1 z => ?_
  · exact (S.par n (List.of_mem_zip hy).1).imp id
      fun q => ⟨q, PySem.W.cellsFrom_some _ _ _ (.inl q)⟩
  subst he
  refine ⟨lim.keeps z.toInCall.keep, codeAny_func ?_⟩
  obtain ⟨t, ht, hq⟩ := body cdv A outer s H vs Q E (hr.deeper _) (hG.deeper _) hsp
  have I := inv_start (CX := CX) (E := E) (qual := qual) (f := f) (cd := cdv) S hr.hd e0 hl r z
  refine wpAny_mono (ht.run [] s1 (start N vs) H _ I hq) (fun fl s' hs => ?_) fun e s' hs => hs
  match fl, hs with
  | .ret u, ⟨v, σ', H', J, rv, q⟩ => exact ⟨v, H', J.os, J.bare, J.base, J.hok, rv, q⟩
  | .next, ⟨σ', H', J, q⟩ => exact ⟨V.non, H', J.os, J.bare, J.base, J.hok, rfl, q⟩
  | .brk, ⟨_, _, _, q⟩ => exact False.elim q
  | .cont, ⟨_, _, _, q⟩ => exact False.elim q

/-- nothing leaves the def -/
theorem fn_q {x qual : Str} {st : Stmt} {f : Addr} {fd : FuncData} {N ps : List Str}
    {k : Nat} {sp : Sp} (F : Fun K x qual st f fd) (S : FnScope N ps (defScope st))
    (len : ∀ vs H Q E, sp vs H Q E → vs.length = ps.length)
    (body : ∀ (cdv : Value) (A : Around) (outer : List Env) (s : Shared) (H : Hp) (vs : List V)
        (Q : VK) (E : XK), Room k (A.deeper (envOfC qual (defScope st) s.heap.objs.size f cdv)) →
      Gd (A.deeper (envOfC qual (defScope st) s.heap.objs.size f cdv)) → sp vs H Q E →
      ∃ t, PSs (cxOf CX0 P w K mg base N qual (defScope st) f cdv A outer s H E).nox (defBody st) t ∧
        t { nx := fun _ H' => Q .non H', rt := Q } (start N vs) H) :
    FnG P w K mg base CX0 (k + 1) f fd ps sp :=
  fn_in F S len fun cdv A outer s H vs Q E hr hG hs =>
    let ⟨t, h, q⟩ := body cdv A outer s H vs Q E hr hG hs
    ⟨t, h.nox, q⟩
end
end Rm

set_option maxRecDepth 100000
set_option maxHeartbeats 4000000
namespace Rm
open PySem PySem.Spec L2
open PyProof.Rows hiding St

/-! ### data of any kind: what stands behind a value -/
def keyD : Key → PyData
  | .inl i => .int i
  | .inr x => .str x
mutual
inductive Dx (K : PySem.W.Frag) (H : Hp) : V → PyData → Prop
  | non : Dx K H .non .none
  | bl (b : Bool) : Dx K H (.bl b) (.bool b)
  | int (i : Int) : Dx K H (.int i) (.int i)
  | str (x : Str) : Dx K H (.str x) (.str x)
  | lst {a : Addr} {xs : List V} {ds : List PyData} :
      SqL K H a xs → DxAll K H xs ds → Dx K H (.ref a) (.list ds)
  | tup {a : Addr} {xs : List V} {ds : List PyData} :
      SqT K H a xs → DxAll K H xs ds → Dx K H (.ref a) (.tuple ds)
  | dic {a : Addr} {kvs : List (Key × V)} {es : List (PyData × PyData)} :
      Rd H a (.dK kvs) → DxKv K H kvs es → Dx K H (.ref a) (.dict es)
inductive DxAll (K : PySem.W.Frag) (H : Hp) : List V → List PyData → Prop
  | nil : DxAll K H [] []
  | cons {v : V} {vs : List V} {d : PyData} {ds : List PyData} :
      Dx K H v d → DxAll K H vs ds → DxAll K H (v :: vs) (d :: ds)
inductive DxKv (K : PySem.W.Frag) (H : Hp) : List (Key × V) → List (PyData × PyData) → Prop
  | nil : DxKv K H [] []
  | cons {k : Key} {v : V} {r : List (Key × V)} {d : PyData} {es : List (PyData × PyData)} :
      Dx K H v d → DxKv K H r es → DxKv K H ((k, v) :: r) ((keyD k, d) :: es)
end

/-- what is read stays -/
def SameR (H H' : Hp) : Prop := ∀ a u, Rd H a u → Rd H' a u
theorem SameR.of {H H' : Hp} (e : Same H H') : SameR H H' := fun a u h =>
  h.elim (fun h => .inl (e _ _ h)) fun ⟨o, h⟩ => .inr ⟨o, e _ _ h⟩
theorem SameR.trans {H H' H2 : Hp} (e : SameR H H') (e2 : SameR H' H2) : SameR H H2 := fun a u h => e2 a u (e a u h)
/-- a thing that is locked is read as before -/
theorem SameR.lock {H : Hp} {d : Addr} {o : Obj} {u : HO} (h : H d = some u) (n : ∀ o' u', u ≠ .frz o' u') : SameR H (upd H d (.frz o u)) := fun a w r => by
  by_cases z : a = d
  · subst z
    rcases r with r | ⟨o', r⟩
    · rw [h] at r; cases r
      exact .inr ⟨o, upd_same⟩
    · rw [h] at r; cases r
      exact absurd rfl (n _ _)
  · rcases r with r | ⟨o', r⟩
    · exact .inl (by rw [upd_ne z]; exact r)
    · exact .inr ⟨o', by rw [upd_ne z]; exact r⟩
theorem sq_upR {K : PySem.W.Frag} {H H' : Hp} {a : Addr} {xs : List V} (e : SameR H H')
    (h : SqL K H a xs) : SqL K H' a xs := h.elim (fun h => .inl (e _ _ h)) .inr
theorem st_upR {K : PySem.W.Frag} {H H' : Hp} {a : Addr} {xs : List V} (e : SameR H H')
    (h : SqT K H a xs) : SqT K H' a xs := h.elim (fun h => .inl (e _ _ h)) .inr
theorem sq_up {K : PySem.W.Frag} {H H' : Hp} {a : Addr} {xs : List V} (e : Same H H')
    (h : SqL K H a xs) : SqL K H' a xs := sq_upR (.of e) h
mutual
theorem Dx.upR {K : PySem.W.Frag} {H H' : Hp} (e : SameR H H') : ∀ {v : V} {d : PyData},
    Dx K H v d → Dx K H' v d
  | _, _, .non => .non
  | _, _, .bl b => .bl b
  | _, _, .int i => .int i
  | _, _, .str x => .str x
  | _, _, .lst h r => .lst (sq_upR e h) (DxAll.upR e r)
  | _, _, .tup h r => .tup (st_upR e h) (DxAll.upR e r)
  | _, _, .dic h r => .dic (e _ _ h) (DxKv.upR e r)
theorem DxAll.upR {K : PySem.W.Frag} {H H' : Hp} (e : SameR H H') : ∀ {vs : List V} {ds : List PyData},
    DxAll K H vs ds → DxAll K H' vs ds
  | _, _, .nil => .nil
  | _, _, .cons h r => .cons (Dx.upR e h) (DxAll.upR e r)
theorem DxKv.upR {K : PySem.W.Frag} {H H' : Hp} (e : SameR H H') :
    ∀ {vs : List (Key × V)} {ds : List (PyData × PyData)}, DxKv K H vs ds → DxKv K H' vs ds
  | _, _, .nil => .nil
  | _, _, .cons h r => .cons (Dx.upR e h) (DxKv.upR e r)
end
theorem Dx.up {K : PySem.W.Frag} {H H' : Hp} {v : V} {d : PyData} (e : Same H H') (h : Dx K H v d) : Dx K H' v d := h.upR (.of e)
theorem DxAll.get {K : PySem.W.Frag} {H : Hp} : ∀ {vs : List V} {ds : List PyData} {i : Nat} {v : V}, DxAll K H vs ds → vs[i]? = some v →
    ∃ d, ds[i]? = some d ∧ Dx K H v d
  | _, _, _, _, .nil, h => by simp at h
  | _, _, 0, _, .cons h _, e => by simp at e; subst e; exact ⟨_, rfl, h⟩
  | _, _, i + 1, _, .cons _ r, e => by simp at e; simpa using DxAll.get r e

theorem DxKv.keys {K : PySem.W.Frag} {H : Hp} : ∀ {kvs : List (Key × V)} {es : List (PyData × PyData)},
    DxKv K H kvs es → es.map (·.1) = kvs.map fun p => keyD p.1
  | _, _, .nil => rfl
  | _, _, .cons _ r => by simp only [List.map_cons]; rw [DxKv.keys r]

section
variable {X : Cx} {pins : List (Addr × Obj)} {σ : L2.St} {H : Hp} {s : Shared}

/-- how u is written, and that it can be read -/
def Shw (P : Program) (w : World) (h : Heap) (u : Value) (d : PyData) : Prop :=
  (∃ as, Reads h u d as) ∧ ∃ bs, ReadAtMost h d.depth bs ∧ ReprK P w bs h d.depth u d.shown
def ShwAll (P : Program) (w : World) (h : Heap) (us : List Value) (ds : List PyData) : Prop :=
  (∃ as, ReadsAll h us ds as) ∧ ∃ bs, ReadAtMost h (PyData.depthAll ds) bs ∧
    ReprAllK P w bs h (PyData.depthAll ds) us (PyData.shownAll ds)

theorem ShwAll.none {P : Program} {w : World} {h : Heap} : ShwAll P w h [] [] :=
  ⟨⟨_, .nil⟩, [], (fun _ z => nomatch z), by simp only [PyData.shownAll]; exact .nil⟩
theorem ShwAll.more {P : Program} {w : World} {h : Heap} {u : Value} {us : List Value} {d : PyData}
    {ds : List PyData} (a : Shw P w h u d) (b : ShwAll P w h us ds) : ShwAll P w h (u :: us) (d :: ds) := by
  obtain ⟨⟨_, r1⟩, b1, m1, k1⟩ := a
  obtain ⟨⟨_, r2⟩, b2, m2, k2⟩ := b
  refine ⟨⟨_, .cons r1 r2⟩, b1 ++ b2, ?_, ?_⟩
  · simp only [PyData.depthAll]
    exact (m1.mono (Nat.le_max_left _ _)).append (m2.mono (Nat.le_max_right _ _))
  · simp only [PyData.depthAll, PyData.shownAll]
    exact .cons ((k1.more fun _ z => List.mem_append_left _ z).level_le (Nat.le_max_left _ _))
      (k2.more_le (fun _ z => List.mem_append_right _ z) (Nat.le_max_right _ _))

theorem kv_read : ∀ {kvs : List (Key × V)} {vs : List (Key × Value)} {es : List DictEntry}
    {P : Program} {w : World}, KV kvs vs → Pairs (mixKind P w) es vs →
    (∀ (h : Heap), ∀ (ks : List PyData), ks = kvs.map (fun p => keyD p.1) →
      PyData.showableAll ks = true → (∀ t ∈ PyData.shownAll ks, t.length ≤ sizeLine) →
      ShwAll P w h (es.map (·.key)) ks) ∧ Vals (kvs.map (·.2)) (es.map (·.val))
  | _, _, _, P, w, .nil, .nil => ⟨fun h ks e _ _ => by subst e; exact ShwAll.none, .nil⟩
  | _, _, _, P, w, .cons (a := (k, v)) (b := (k', u)) hr tl, .cons (e := e) hk hv r => by
    obtain ⟨ih1, ih2⟩ := kv_read tl r
    obtain ⟨rfl, rv⟩ := hr
    refine ⟨fun h ks e2 hs hz => ?_, ?_⟩
    · subst e2
      simp only [List.map_cons, PyData.showableAll, Bool.and_eq_true] at hs
      simp only [List.map_cons, PyData.shownAll] at hz ⊢
      refine ShwAll.more ?_ (ih1 h _ rfl hs.2 fun t ht => hz t (List.mem_cons_of_mem _ ht))
      have z0 := hz _ (List.mem_cons_self ..)
      rcases keyIs_shape (k := k) (v := e.key) hk with ⟨i, t, ek, ev⟩ | ⟨x, t, ek, ev⟩
      · subst ek
        rw [ev]
        have hi : i.natAbs.log2 < 1920 := by simpa [keyD, PyData.showable] using hs.1
        refine ⟨⟨_, .int i t⟩, [], (fun _ z => nomatch z), ?_⟩
        simp only [keyD, PyData.shown]
        exact .of_is (ReprIs.int t hi) _ _ _
      · subst ek
        rw [ev]
        refine ⟨⟨_, .str x t⟩, [], (fun _ z => nomatch z), ?_⟩
        simp only [keyD, PyData.shown] at z0 ⊢
        exact .of_is (ReprIs.str x t z0) _ _ _
    · simp only [List.map_cons]
      rw [hv]
      exact .cons rv ih2

mutual
theorem Dx.shw (I : Inv X pins σ H s) : ∀ (d : PyData) (v : V) (u : Value), Dx X.K H v d → RelV v u →
    d.showable = true → d.shown.length ≤ sizeLine → Shw X.prog X.w s.heap u d
  | .none, _, _, h, r, _, _ => by
    cases h; cases r
    exact ⟨⟨_, .none⟩, [], (fun _ z => nomatch z), by simp only [PyData.shown]; exact .of_is ReprIs.none _ _ _⟩
  | .bool b, _, _, h, r, _, _ => by
    cases h; cases r
    exact ⟨⟨_, .bool b⟩, [], (fun _ z => nomatch z), by simp only [PyData.shown]; exact .of_is (ReprIs.bool b) _ _ _⟩
  | .int i, _, _, h, r, hs, _ => by
    cases h
    obtain ⟨t, rfl⟩ := r
    refine ⟨⟨_, .int i t⟩, [], (fun _ z => nomatch z), ?_⟩
    simp only [PyData.shown]
    exact .of_is (ReprIs.int t (by simpa [PyData.showable] using hs)) _ _ _
  | .str x, _, _, h, r, _, hz => by
    cases h
    obtain ⟨t, rfl⟩ := r
    refine ⟨⟨_, .str x t⟩, [], (fun _ z => nomatch z), ?_⟩
    simp only [PyData.shown] at hz ⊢
    exact .of_is (ReprIs.str x t hz) _ _ _
  | .list ds, _, _, h, r, hs, hz => by
    cases h with
    | lst hl ha =>
      cases r
      obtain ⟨its, rv, ⟨o, n, ho, hc, _, hd⟩, _⟩ := I.list hl
      simp only [PyData.shown] at hz
      obtain ⟨⟨as, ra⟩, bs, mb, kb⟩ := Dx.shwAll I ds _ its ha rv (by simpa [PyData.showable] using hs)
        fun t ht => Nat.le_trans (listText_mem_le ht) hz
      have rr := Reads.list ho hc hd ra
      refine ⟨⟨_, rr⟩, _, ReadAtMost.cons rr (by simp only [PyData.depth]; omega) mb, ?_⟩
      simp only [PyData.depth, PyData.shown]
      cases its with
      | nil =>
        cases ra
        simp only [PyData.shownAll, listText_nil]
        exact ReprK.listEmpty ho hc hd
      | cons y l =>
        exact ReprK.list ho hc hd (not_mem_of_deeper rr (by simp only [PyData.depth]; omega) mb)
          (by simpa using kb.length_eq) fun i z e => kb.item i z (by simpa using e)
  | .tuple ds, _, _, h, r, hs, hz => by
    cases h with
    | tup hl ha =>
      cases r
      obtain ⟨its, rv, ⟨o, ho, hc, n, hd⟩, _⟩ := I.tuple hl
      simp only [PyData.shown] at hz
      obtain ⟨⟨as, ra⟩, bs, mb, kb⟩ := Dx.shwAll I ds _ its ha rv (by simpa [PyData.showable] using hs)
        fun t ht => Nat.le_trans (tupleText_mem_le ht) hz
      have rr := Reads.tuple ho hc hd ra
      refine ⟨⟨_, rr⟩, _, ReadAtMost.cons rr (by simp only [PyData.depth]; omega) mb, ?_⟩
      simp only [PyData.depth, PyData.shown]
      exact ReprK.tuple ho hc hd (not_mem_of_deeper rr (by simp only [PyData.depth]; omega) mb) kb
  | .dict es, _, _, h, r, hs, hz => by
    cases h with
    | dic hl ha =>
      cases r
      obtain ⟨hsz, hsys, vs, kv, o, ents, ep, ho, hx, hd, _, hp, _⟩ := dk_rd I.hok hl
      obtain ⟨hs1, hs2⟩ := PyData.showableKv_split es (by simpa [PyData.showable] using hs)
      simp only [PyData.shown] at hz
      obtain ⟨kr, vr⟩ := kv_read kv hp
      have ek := DxKv.keys ha
      obtain ⟨⟨_, r1⟩, b1, m1, k1⟩ := kr s.heap _ ek hs1 fun t ht =>
        let ⟨p, hp, hl⟩ := PyData.shownKv_key_le es t ht
        Nat.le_trans hl (Nat.le_trans (dictText_mem_le hp) hz)
      obtain ⟨⟨_, r2⟩, b2, m2, k2⟩ := Dx.shwAll2 I es _ _ ha vr hs2 fun t ht =>
        let ⟨p, hp, hl⟩ := PyData.shownKv_val_le es t ht
        Nat.le_trans hl (Nat.le_trans (dictText_mem_le hp) hz)
      have rr : Reads s.heap (.ref _) (.dict es) _ := Reads.dict ho hx.1 hd r1 r2
      have mb := (m1.mono (PyData.depthAll_keys_le es)).append (m2.mono (PyData.depthAll_vals_le es))
      refine ⟨⟨_, rr⟩, _, ReadAtMost.cons rr (by simp only [PyData.depth]; omega) mb, ?_⟩
      simp only [PyData.depth, PyData.shown, PyData.shownKv_eq]
      exact ReprK.dict ho hx.1 hd hsys (not_mem_of_deeper rr (by simp only [PyData.depth]; omega) mb)
        (ReprEntriesK.of_two ents.toList _ _
          (k1.more_le (fun _ z => List.mem_append_left _ z) (PyData.depthAll_keys_le es))
          (k2.more_le (fun _ z => List.mem_append_right _ z) (PyData.depthAll_vals_le es)))
theorem Dx.shwAll (I : Inv X pins σ H s) : ∀ (ds : List PyData) (vs : List V) (us : List Value),
    DxAll X.K H vs ds → Vals vs us → PyData.showableAll ds = true →
    (∀ t ∈ PyData.shownAll ds, t.length ≤ sizeLine) → ShwAll X.prog X.w s.heap us ds
  | [], _, _, h, r, _, _ => by
    cases h; cases r
    exact ShwAll.none
  | d :: ds, _, _, h, r, hs, hz => by
    cases h with
    | cons h1 h2 =>
      cases r with
      | cons r1 r2 =>
        simp only [PyData.showableAll, Bool.and_eq_true] at hs
        simp only [PyData.shownAll] at hz
        exact ShwAll.more (Dx.shw I d _ _ h1 r1 hs.1 (hz _ (List.mem_cons_self ..)))
          (Dx.shwAll I ds _ _ h2 r2 hs.2 fun t ht => hz t (List.mem_cons_of_mem _ ht))
theorem Dx.shwAll2 (I : Inv X pins σ H s) : ∀ (es : List (PyData × PyData)) (kvs : List (Key × V))
    (us : List Value), DxKv X.K H kvs es → Vals (kvs.map (·.2)) us →
    PyData.showableAll (es.map (·.2)) = true →
    (∀ t ∈ PyData.shownAll (es.map (·.2)), t.length ≤ sizeLine) → ShwAll X.prog X.w s.heap us (es.map (·.2))
  | [], _, _, h, r, _, _ => by
    cases h; cases r
    exact ShwAll.none
  | (k, d) :: ds, _, _, h, r, hs, hz => by
    cases h with
    | cons h1 h2 =>
      cases r with
      | cons r1 r2 =>
        simp only [List.map_cons, PyData.showableAll, Bool.and_eq_true] at hs
        simp only [List.map_cons, PyData.shownAll] at hz
        exact ShwAll.more (Dx.shw I d _ _ h1 r1 hs.1 (hz _ (List.mem_cons_self ..)))
          (Dx.shwAll2 I ds _ _ h2 r2 hs.2 fun t ht => hz t (List.mem_cons_of_mem _ ht))
end
end
end Rm

set_option maxRecDepth 100000
set_option maxHeartbeats 4000000
namespace Rm
open PySem PySem.Spec L2
open PyProof.Rows hiding St

/-- small enough to be written out -/
structure Sm (d : PyData) : Prop where
  sh : d.showable = true
  lv : d.leavesShort 100 = true
  wt : d.weight ≤ 100000
  dp : d.depth ≤ 50
theorem Sm.len {d : PyData} (h : Sm d) : d.shown.length ≤ sizeLine := by
  have h1 := PyData.shown_le 100 (by decide) d h.lv
  have h2 := h.wt
  rw [sizeLine_eq]
  omega

def rRep (K : PySem.W.Frag) : List V → Hp → VK → Prop := fun xs H Q =>
  ∃ x d, xs = [x] ∧ Dx K H x d ∧ Sm d ∧ Q (.str d.shown) H
theorem call_rep {X : Cx} (hG : Gd X.A) (hu : X.A.units + 64 < cLine) : CallR X (.builtin "repr") (rRep X.K) := by
  intro pins s σ H xs us Q I r h
  obtain ⟨x, d, rfl, hd, hs, q⟩ := h
  obtain ⟨u, rfl, ru⟩ := vals1 r
  have hz := hs.len
  have hdp := hs.dp
  have S := Dx.shw I d x u hd ru hs.sh hz
  have fin : ∀ h' t tk, (∀ b o, s.heap.get? b = some o → h'.get? b = some o) →
      EP X pins σ Q (.str d.shown t) { s with heap := h', toks := tk } := fun h' t tk k =>
    ⟨.str d.shown, H, I.kept k, ⟨t, rfl⟩, q⟩
  cases hd with
  | non =>
    cases ru
    simp only [PyData.shown] at fin
    exact PySem.P.repr_of_none (fin s.heap _ _ fun _ _ e => e)
  | bl b =>
    cases ru
    simp only [PyData.shown] at fin
    exact PySem.P.repr_of_bool (fin s.heap _ _ fun _ _ e => e)
  | int i =>
    obtain ⟨t, rfl⟩ := ru
    simp only [PyData.shown] at fin
    exact PySem.P.repr_of_int (by simpa [PyData.showable] using hs.sh) (fin s.heap _ _ fun _ _ e => e)
  | str z =>
    obtain ⟨t, rfl⟩ := ru
    simp only [PyData.shown] at fin hz
    exact PySem.P.repr_of_str (fin s.heap _ _ fun _ _ e => e) hz
  | lst hl ha =>
    cases ru
    rename_i a xs ds
    obtain ⟨its, rv, ⟨o, n, ho, hc, _, hdt⟩, _⟩ := I.list hl
    simp only [PyData.shown] at hz fin
    simp only [PyData.depth] at hdp
    have ss : PyData.showableAll ds = true := by simpa [PyData.showable] using hs.sh
    obtain ⟨⟨as, ra⟩, bs, mb, kb⟩ := Dx.shwAll I ds _ its ha rv ss
      fun t ht => Nat.le_trans (listText_mem_le ht) hz
    have rr := Reads.list ho hc hdt ra
    refine call_repr_slot (by omega) ⟨o, ho, hc⟩ F.slot_list_repr.toG ?_
    cases its with
    | nil =>
      cases ra
      simp only [PyData.shownAll, listText_nil] at fin
      exact call_list_repr_empty ⟨o, ho, hc⟩ ho hdt ⟨_, _, rfl, fin s.heap _ _ fun _ _ e => e⟩
    | cons y l =>
      exact call_list_reprK ho hc hdt (not_mem_of_deeper rr (by simp only [PyData.depth]; omega) mb)
        (by simpa using kb.length_eq) (fun i z e => kb.item i z (by simpa using e)) hG
        (fun b _ => Clear.nil b) (by show X.A.units + 1 + _ < cLine; omega) (fun _ _ e => e)
        (fun h' t tk k => ⟨_, _, rfl, fin h' t tk k⟩) hz
  | tup hl ha =>
    cases ru
    rename_i a xs ds
    obtain ⟨its, rv, ⟨o, ho, hc, n, hdt⟩, _⟩ := I.tuple hl
    simp only [PyData.shown] at hz fin
    simp only [PyData.depth] at hdp
    have ss : PyData.showableAll ds = true := by simpa [PyData.showable] using hs.sh
    obtain ⟨⟨as, ra⟩, bs, mb, kb⟩ := Dx.shwAll I ds _ its ha rv ss
      fun t ht => Nat.le_trans (tupleText_mem_le ht) hz
    have rr := Reads.tuple ho hc hdt ra
    refine call_repr_slot (by omega) ⟨o, ho, hc⟩ F.slot_tuple_repr ?_
    exact call_tuple_reprK ho hc hdt (not_mem_of_deeper rr (by simp only [PyData.depth]; omega) mb) kb hG
      (fun b _ => Clear.nil b) (by show X.A.units + 1 + _ < cLine; omega) (fun _ _ e => e)
      (fun h' t tk k => ⟨_, _, rfl, fin h' t tk k⟩) hz
  | dic hl ha =>
    cases ru
    rename_i a kvs es
    obtain ⟨hsz, hsys, vs, kv, o, ents, ep, ho, hx, hdt, _, hp, _⟩ := dk_rd I.hok hl
    obtain ⟨hs1, hs2⟩ := PyData.showableKv_split es (by simpa [PyData.showable] using hs.sh)
    simp only [PyData.shown] at hz fin
    simp only [PyData.depth] at hdp
    obtain ⟨kr, vr⟩ := kv_read kv hp
    have ek := DxKv.keys ha
    obtain ⟨⟨_, r1⟩, b1, m1, k1⟩ := kr s.heap _ ek hs1 fun t ht =>
      let ⟨p, hp, hl⟩ := PyData.shownKv_key_le es t ht
      Nat.le_trans hl (Nat.le_trans (dictText_mem_le hp) hz)
    obtain ⟨⟨_, r2⟩, b2, m2, k2⟩ := Dx.shwAll2 I es _ _ ha vr hs2 fun t ht =>
      let ⟨p, hp, hl⟩ := PyData.shownKv_val_le es t ht
      Nat.le_trans hl (Nat.le_trans (dictText_mem_le hp) hz)
    have rr : Reads s.heap (.ref _) (.dict es) _ := Reads.dict ho hx.1 hdt r1 r2
    have mb := (m1.mono (PyData.depthAll_keys_le es)).append (m2.mono (PyData.depthAll_vals_le es))
    rw [PyData.shownKv_eq] at fin hz
    refine call_repr_slot (by omega) ⟨o, ho, hx.1⟩ F.slot_dict_repr ?_
    exact call_dict_reprK ho hx.1 hdt hsys (not_mem_of_deeper rr (by simp only [PyData.depth]; omega) mb)
      (ReprEntriesK.of_two ents.toList _ _
        (k1.more_le (fun _ z => List.mem_append_left _ z) (PyData.depthAll_keys_le es))
        (k2.more_le (fun _ z => List.mem_append_right _ z) (PyData.depthAll_vals_le es))) hG
      (fun b _ => Clear.nil b) (by show X.A.units + 1 + _ < cLine; omega) (fun _ _ e => e)
      (fun h' t tk k => ⟨_, _, rfl, fin h' t tk k⟩) hz

/-! ### powers of great numbers -/
def CPowX (i j : Int) : Prop := 0 ≤ j ∧ (Builtin.Int.intBits i : Int) * j ≤ 2 ^ 27
theorem op_powX {X : Cx} : OpR X (binaryOp .Pow) (rI CPowX fun i j => .int (i ^ j.toNat)) :=
  opI fun _ _ _ _ _ _ _ hc q => pow_int hc.1 hc.2 q
end Rm

set_option maxRecDepth 100000
set_option maxHeartbeats 4000000
namespace Rm
open PySem PySem.Spec L2
open PyProof.Rows hiding St

/-! ### what is called, in one word each -/
/-- the module's name x is a def that keeps sp -/
def Ce (P : Program) (w : World) (K : PySem.W.Frag) (mg : Str → Option Value) (base : Heap) (CX : CXT)
    (k : Nat) (x : Str) (ps : List Str) (sp : Sp) : Prop :=
  ∃ f fd, mg x = some (.ref f) ∧ PySem.W.keepIn K (.ref f) = true ∧ Binds K fd ps [] ∧
    FnG P w K mg base CX k f fd ps sp
/-- the class at C has the method m that keeps sp -/
def Cm (P : Program) (w : World) (K : PySem.W.Frag) (mg : Str → Option Value) (base : Heap) (CX : CXT)
    (k : Nat) (C : Addr) (m : Str) (ps : List Str) (sp : Sp) : Prop :=
  ∃ f fd, Cls K C ∧ Meth K C m f ∧ Binds K fd ps [] ∧ FnG P w K mg base CX k f fd ps sp
/-- the module's name x is a class whose __init__ keeps sp -/
def Cn (P : Program) (w : World) (K : PySem.W.Frag) (mg : Str → Option Value) (base : Heap) (CX : CXT)
    (k : Nat) (x : Str) (C : Addr) (ps : List Str) (sp : Sp) : Prop :=
  ∃ f fd, mg x = some (.ref C) ∧ Mk K C f ∧ Binds K fd ps [] ∧ FnG P w K mg base CX k f fd ps sp
/-- the class at C has the property m that keeps sp -/
def Cp (P : Program) (w : World) (K : PySem.W.Frag) (mg : Str → Option Value) (base : Heap) (CX : CXT)
    (k : Nat) (C : Addr) (m : Str) (sp : Sp) : Prop :=
  ∃ p g fd, Cls K C ∧ PropOf K C m p g ∧ Binds K fd ["self"] [] ∧ FnG P w K mg base CX k g fd ["self"] sp

section
variable {X : Cx} {CX : CXT} {k : Nat} {C : Addr} {ps : List Str} {sp : Sp}
variable {E : XK} {x m : Str} {p pos apos : Pos} {e o : Expr}
variable {es : List Expr} {ta : TE} {t : TA}
theorem pe_ce (D : Ce X.prog X.w X.K X.mg X.base CX k x ps sp) (hr : Room k X.A) (hG : Gd X.A)
    (ha : PA X (e :: es) t) (hx : Passes CX X E) (hg : Gl X x := by rfl)
    (hdb : (x == ("__debug__" : Str)) = false := by decide)
    (he : starEach (e :: es) X.env = (false, eval e X.env) :: starEach es X.env := by rfl)
    (hpl : (backTo pos (starEach es X.env)).any (·.1) = false := by rfl) :
    PE X (.Call (.Name x p) (e :: es) [] pos) (tCall sp [] E t) :=
  let ⟨_, _, hm, hk, hb, F⟩ := D
  pe_fn F hr hG hg hm hk hb .nil hx ha hdb he hpl
theorem pe_ce0 (D : Ce X.prog X.w X.K X.mg X.base CX k x ps sp) (hr : Room k X.A) (hG : Gd X.A)
    (hx : Passes CX X E) (hg : Gl X x := by rfl)
    (hdb : (x == ("__debug__" : Str)) = false := by decide) :
    PE X (.Call (.Name x p) [] [] pos) (tCall sp [] E tNil) :=
  let ⟨_, _, hm, hk, hb, F⟩ := D
  pe_fn0 F hr hG hg hm hk hb .nil hx hdb
theorem pe_cm {pl : Sem Bool} (D : Cm X.prog X.w X.K X.mg X.base CX k C m ps sp) (hr : Room k X.A)
    (hG : Gd X.A) (he : PE X o ta) (ha : PA X (e :: es) t) (hx : Passes CX X E)
    (hst : starEach (e :: es) X.env = (false, eval e X.env) :: starEach es X.env := by rfl)
    (hpl : (backTo pos (starEach es X.env)).any (·.1) = false := by rfl)
    (ht : eval (.Call (.Attribute o m apos) (e :: es) [] pos) X.env = (do
      let ov ← eval o X.env
      standAt apos.atName
      let (g, first) ← holding [ov] (getMethod ov m pl)
      callWith pos g first (backTo pos (starEach (e :: es) X.env))
        (backToKw pos (keywordEach [] X.env))) := by rfl) :
    PE X (.Call (.Attribute o m apos) (e :: es) [] pos) (tMeth C m sp [] E ta t) :=
  let ⟨_, _, c, hm, hb, F⟩ := D
  pe_mth he c hm F hr hG hb .nil hx ha hst hpl ht
theorem pe_cm0 {pl : Sem Bool} (D : Cm X.prog X.w X.K X.mg X.base CX k C m ps sp) (hr : Room k X.A)
    (hG : Gd X.A) (he : PE X o ta) (hx : Passes CX X E)
    (ht : eval (.Call (.Attribute o m apos) [] [] pos) X.env = (do
      let ov ← eval o X.env
      standAt apos.atName
      let (g, first) ← holding [ov] (getMethod ov m pl)
      callWith pos g first (backTo pos (starEach [] X.env))
        (backToKw pos (keywordEach [] X.env))) := by rfl) :
    PE X (.Call (.Attribute o m apos) [] [] pos) (tMeth C m sp [] E ta tNil) :=
  let ⟨_, _, c, hm, hb, F⟩ := D
  pe_mth0 he c hm F hr hG hb .nil hx ht
theorem pe_cn (D : Cn X.prog X.w X.K X.mg X.base CX k x C ps sp) (hr : Room (k + 1) X.A) (hG : Gd X.A)
    (ha : PA X (e :: es) t) (hx : Passes CX X E) (hg : Gl X x := by rfl)
    (hdb : (x == ("__debug__" : Str)) = false := by decide)
    (he : starEach (e :: es) X.env = (false, eval e X.env) :: starEach es X.env := by rfl)
    (hpl : (backTo pos (starEach es X.env)).any (·.1) = false := by rfl) :
    PE X (.Call (.Name x p) (e :: es) [] pos) (tMake C sp [] E t) :=
  let ⟨_, _, hm, M, hb, F⟩ := D
  pe_new M F hr hG hg hm hb .nil hx ha hdb he hpl
theorem pe_cn0 (D : Cn X.prog X.w X.K X.mg X.base CX k x C ps sp) (hr : Room (k + 1) X.A) (hG : Gd X.A)
    (hx : Passes CX X E) (hg : Gl X x := by rfl)
    (hdb : (x == ("__debug__" : Str)) = false := by decide) :
    PE X (.Call (.Name x p) [] [] pos) (tMake C sp [] E tNil) :=
  let ⟨_, _, hm, M, hb, F⟩ := D
  pe_new0 M F hr hG hg hm hb .nil hx hdb
end

/-! ### properties -/
section
variable {X : Cx} {CX : CXT} {k : Nat} {C : Addr} {sp : Sp} {E : XK} {f : Str} {pos : Pos} {e : Expr} {ta : TE}
theorem pe_cp (D : Cp X.prog X.w X.K X.mg X.base CX k C f sp) (hr : Room (k + 1) X.A) (hG : Gd X.A)
    (he : PE X e ta) (hx : Passes CX X.nox E)
    (hab : attributeBase e f X.env (eval e X.env) = eval e X.env := by rfl) :
    PE X (.Attribute e f pos) (tProp C sp [] E ta) := by
  obtain ⟨p, g, fd, c, hp, hb, F⟩ := D
  constructor
  intro pins s σ H Q I h
  refine attr_of hab (thn (he.run pins s σ H _ I h) fun u s1 ⟨x, H1, I1, rx, a, dx, fs, ex, ea, q⟩ => ?_)
  obtain rfl := ex
  have ru : u = Value.ref a := rx
  rw [ru]
  obtain ⟨mA, O, _⟩ := ins_get I1.hok ea
  obtain ⟨od, J, _⟩ := O.look
  obtain ⟨rest, hrec⟩ := hp.rec_
  have I2 := I1.tok (s1.toks + 1)
  have pg := PySem.W.plainGet_of (c.get f)
  have hc : (PySem.W.clsIn X.K C).isSome = true := by
    obtain ⟨cd, z, _⟩ := PySem.W.any_some c.hd
    rw [z]; rfl
  refine PySem.W.get_bind I1.kIn J pg.1 (PySem.W.findObj_data hc hp.at_ hp.get hp.tak) pg.2
    (wpAny_call (PySem.W.prop_get (s := { s1 with toks := s1.toks + 1 }) I1.kIn hrec ?_))
  refine codeAny_mono (F.run X.A.in1 X.stack _ H1 ⟨[.ref a], []⟩ [.ref a] [.ref a] Q E hr.in1 hG.in1
    I2.env0.in1 (hb _ [.ref a] I2.kIn rfl) (.cons rfl .nil) q) fun r s' hq => ?_
  match r, hq with
  | .error er, hq => exact False.elim (hx pins σ H1 _ er s' (I2.wish _) hq)
  | .ok (.ret v), hq =>
    obtain ⟨y, H', I3, rv, q3⟩ := I2.after hq
    show wpAny _ _ (handedOut v) _ _ _
    rw [PySem.W.handedOut_of (handed_of rv)]
    exact wpAny_pure ⟨y, H', I3, rv, q3⟩
  | .ok .next, hq => exact False.elim hq
  | .ok .brk, hq => exact False.elim hq
  | .ok .cont, hq => exact False.elim hq
end

/-! ### the tape -/
def tapeO (dg mx : Int) : HO := .dK [(.inr "digits", .int dg), (.inr "mixed", .int mx)]
structure TapeOk (dg mx : Int) : Prop where
  d0 : 0 ≤ dg
  m0 : 0 ≤ mx
  m1 : mx < 4294967296
def IsTape (o : HO) : Prop := ∃ dg mx, o = tapeO dg mx ∧ TapeOk dg mx
theorem s_dm : ¬ (("digits" : Str) = ("mixed" : Str)) := by decide +kernel
theorem s_md : ¬ (("mixed" : Str) = ("digits" : Str)) := by decide +kernel
theorem k_dm : ¬ ((Sum.inr ("digits" : Str) : Key) = Sum.inr ("mixed" : Str)) := by decide +kernel
theorem k_md : ¬ ((Sum.inr ("mixed" : Str) : Key) = Sum.inr ("digits" : Str)) := by decide +kernel
section
variable {H : Hp} {t : Addr} {dg mx z : Int}
theorem tape_dg (h : H t = some (tapeO dg mx)) : DGet H t (.str "digits") (some (.int dg)) := by
  have e := DGet.k (k := Sum.inr ("digits" : Str)) h
  rw [valV_pos rfl] at e
  exact e
theorem tape_mx (h : H t = some (tapeO dg mx)) : DGet H t (.str "mixed") (some (.int mx)) := by
  have e := DGet.k (k := Sum.inr ("mixed" : Str)) h
  rw [valV_neg k_dm, valV_pos rfl] at e
  exact e
theorem tape_pd (h : H t = some (tapeO dg mx)) : DPut H t (.str "digits") (.int z) (upd H t (tapeO z mx)) := by
  have e := DPut.k (k := Sum.inr ("digits" : Str)) (v := .int z) h (small1000 (by show 2 ≤ 1000; decide))
  have q : putK [((Sum.inr "digits" : Key), V.int dg), (.inr "mixed", .int mx)] (Sum.inr "digits") (V.int z)
      = [(.inr "digits", .int z), (.inr "mixed", .int mx)] := by
    unfold putK
    simp [s_md]
  rw [q] at e
  exact e
theorem tape_pm (h : H t = some (tapeO dg mx)) : DPut H t (.str "mixed") (.int z) (upd H t (tapeO dg z)) := by
  have e := DPut.k (k := Sum.inr ("mixed" : Str)) (v := .int z) h (small1000 (by show 2 ≤ 1000; decide))
  have q : putK [((Sum.inr "digits" : Key), V.int dg), (.inr "mixed", .int mx)] (Sum.inr "mixed") (V.int z)
      = [(.inr "digits", .int dg), (.inr "mixed", .int z)] := by
    unfold putK
    simp [s_dm]
  rw [q] at e
  exact e
end
/-- a number from 0 to many - 1; the tape goes on -/
def spPick : Sp := fun vs H Q _ => ∃ (t : Addr) (o : HO) (n : Int), vs = [.ref t, .int n] ∧ H t = some o ∧ IsTape o ∧
  1 ≤ n ∧ n ≤ 1000000 ∧ ∀ (k : Int) (o' : HO), 0 ≤ k → k < n → IsTape o' → Q (.int k) (upd H t o')
theorem bits32 {m : Int} (h0 : 0 ≤ m) (h1 : m < 4294967296) : Builtin.Int.intBits m ≤ 32 := by
  unfold Builtin.Int.intBits
  split
  · omega
  · have : m.natAbs.log2 < 32 := PySem.Flt.log2_lt_of (by decide) (by omega)
    omega
theorem pow32 {m j : Int} (h0 : 0 ≤ m) (h1 : m < 4294967296) (hj : 0 ≤ j) (hj2 : j ≤ 100) : CPowX m j := by
  refine ⟨hj, ?_⟩
  have b := bits32 h0 h1
  have : (Builtin.Int.intBits m : Int) * j ≤ 32 * 100 :=
    Int.mul_le_mul (by omega) hj2 hj (by decide)
  omega
end Rm

set_option maxRecDepth 100000
set_option maxHeartbeats 4000000
namespace Rm
open PySem PySem.Spec L2
open PyProof.Rows hiding St

theorem ib_lt {x : Int} {n : Nat} (h : Builtin.Int.intBits x ≤ n) : x.natAbs < 2 ^ n := by
  unfold Builtin.Int.intBits at h
  split at h
  · rename_i e
    have : x = 0 := by simpa using e
    subst this
    exact Nat.two_pow_pos n
  · rename_i e
    have e' : x.natAbs ≠ 0 := by
      intro z
      exact e (by simp [Int.natAbs_eq_zero.mp z])
    have q := (Nat.log2_lt e').1 (show x.natAbs.log2 < n by omega)
    exact q
theorem ib_of {x : Int} {n : Nat} (h : x.natAbs < 2 ^ n) : Builtin.Int.intBits x ≤ n := by
  unfold Builtin.Int.intBits
  split
  · omega
  · rename_i e
    have e' : x.natAbs ≠ 0 := by
      intro z
      exact e (by simp [Int.natAbs_eq_zero.mp z])
    have := (Nat.log2_lt e').2 h
    omega
theorem ib_mul {x y : Int} {n m : Nat} (h : Builtin.Int.intBits x ≤ n) (h' : Builtin.Int.intBits y ≤ m) :
    Builtin.Int.intBits (x * y) ≤ n + m := by
  apply ib_of
  rw [Int.natAbs_mul, Nat.pow_add]
  exact Nat.mul_lt_mul'' (ib_lt h) (ib_lt h')
theorem ib_mono {x : Int} {n m : Nat} (h : Builtin.Int.intBits x ≤ n) (hm : n ≤ m) : Builtin.Int.intBits x ≤ m :=
  Nat.le_trans h hm
theorem ib_add {x y : Int} {n : Nat} (h : Builtin.Int.intBits x ≤ n) (h' : Builtin.Int.intBits y ≤ n) :
    Builtin.Int.intBits (x + y) ≤ n + 1 := by
  apply ib_of
  have a := ib_lt h
  have b := ib_lt h'
  have c := Int.natAbs_add_le x y
  rw [Nat.pow_succ]
  omega
/-- the tape's mixing: the power of a cell's square -/
theorem mix_pow {m c : Int} (h0 : 0 ≤ m) (h1 : m < 4294967296) (hc : Builtin.Int.intBits c ≤ 1048576) :
    CMulX m 30013 ∧ CMulX c c ∧ CPowX (m * 30013 + c * c + 11) 2 := by
  have bm := bits32 h0 h1
  have b3 : Builtin.Int.intBits (30013 : Int) ≤ 32 := bits32 (by decide) (by decide)
  have b1 : Builtin.Int.intBits (11 : Int) ≤ 32 := bits32 (by decide) (by decide)
  have s1 := ib_add (n := 2097152) (ib_mono (ib_mul bm b3) (by decide)) (ib_mono (ib_mul hc hc) (by decide))
  have s2 := ib_add (n := 2097153) s1 (ib_mono b1 (by decide))
  refine ⟨?_, ?_, by decide, ?_⟩
  · unfold CMulX; omega
  · unfold CMulX; omega
  · have e : (2 : Int) ^ 27 = 134217728 := by decide
    rw [e]
    omega
/-- a list that is read stands while the tape goes on -/
theorem sq_tape {K : PySem.W.Frag} {H : Hp} {t l : Addr} {o o' : HO} {xs : List V} (h : SqL K H l xs)
    (ht : H t = some o) (ho : IsTape o) : SqL K (upd H t o') l xs := by
  obtain ⟨dg, mx, rfl, _⟩ := ho
  rcases h with (h | ⟨ob, h⟩) | h
  · have ne : l ≠ t := fun e => by
      subst e; rw [ht] at h; cases h
    exact .inl (.inl (by rw [upd_ne ne]; exact h))
  · have ne : l ≠ t := fun e => by
      subst e; rw [ht] at h; cases h
    exact .inl (.inr ⟨ob, by rw [upd_ne ne]; exact h⟩)
  · exact .inr h
/-- a drawn item -/
def spOne (K : PySem.W.Frag) : Sp := fun vs H Q _ => ∃ (t l : Addr) (o : HO) (xs : List V), vs = [.ref t, .ref l] ∧
  H t = some o ∧ IsTape o ∧ SqL K H l xs ∧ 1 ≤ xs.length ∧ xs.length ≤ 1000000 ∧
  ∀ (i : Nat) (v : V) (o' : HO), xs[i]? = some v → IsTape o' → Q v (upd H t o')
/-- a new tape -/
def spTape (K : PySem.W.Frag) : Sp := fun vs H Q _ => ∃ (a : Addr) (ns : List Int) (z : Int), vs = [.ref a, .int z] ∧
  SqL K H a (ns.map V.int) ∧ ns.length ≤ 63 ∧ (∀ n ∈ ns, Builtin.Int.intBits n ≤ 1048576) ∧ 0 ≤ z ∧ z ≤ 1000 ∧
  ∀ (p : Addr) (o : HO), H p = none → IsTape o → Q (.ref p) (upd H p o)
end Rm

set_option maxRecDepth 100000
set_option maxHeartbeats 4000000
namespace Rm
open PySem PySem.Spec L2
open PyProof.Rows hiding St

/-! ### an own error whose __init__ says super().__init__(text); self.y = y -/
/-- the built-in __init__, bound to the error e, is called -/
theorem call_mw {prog : Program} {w : World} {A : Around} {E : Value → Shared → Prop} {h : Heap}
    {g : Array GenState} {d : Drawn} {tk : Nat} {os : OsState} {u e C t0 : Addr} {dv : Option Addr}
    {rest : List Value} {Q : Value → Shared → Prop} {nm q : Str} {N : Addr} {bs bm : List Value}
    {hdct : Bool} {sn : List Str} {sub : List Value} {ab : Bool} {col : Option Bool} {dd : Option Addr}
    {k0 k1 k2 k3 k5 : Option Value}
    (hC : h.get? C = some (excClassObj nm q C N bs bm hdct sn sub ab col dd k0 k1 k2 k3 k5 "ValueError.__new__"))
    (he : h.get? e = some (PySem.W.excObj C t0 dv .none))
    (hu : h.get? u = some (PySem.W.kxs_mw "ValueError.__init__" e)) (hz : rest.length ≤ sizeLine)
    (k : ∀ h', (∀ b o, b ≠ e → h.get? b = some o → h'.get? b = some o) →
      h'.get? e = some (PySem.W.excObj C h.objs.size dv .none) → Q .none ⟨h', g, d, tk, os⟩) :
    wpAny (model prog w) A (call (.ref u) rest) Q E ⟨h, g, d, tk, os⟩ := by
  apply wpAny_call
  apply codeAny_of_tree
  show wpAny _ A.in1 (callAny (.ref u) ⟨rest, []⟩) _ _ _
  unfold callAny
  apply wpAny_bind
  apply wpAny_load hu
  have t1 : (Value.type "method-wrapper" == Value.type "method") = false := by decide
  have t2 : (Value.type "method-wrapper" == Value.type "builtin_function_or_method") = false := by decide
  have t3 : (Value.type "method-wrapper" == Value.type "method-wrapper") = true := by decide
  simp only [PySem.W.kxs_mw, t1, t2, t3, Bool.false_or, Bool.or_true, if_true]
  refine PySem.W.KFB.if_so (by decide) ?_
  apply wpAny_bind
  refine PySem.W.check_bound_init F.excBase_ValueError.toExcCallFacts hC he rfl ?_
  apply wpAny_pure
  refine ⟨plainId_quiet F.excBase_ValueError.init.plain _, codeAny_builtin F.excBase_ValueError.initEntry ?_⟩
  exact PySem.W.exc_init_tree (cls := .ref C) (t0 := t0) (dv := dv) (c2 := .none) (c3 := .none)
    (b4 := .bool false) he hz fun h' k1 k2 _ => k h' k1 k2

/-- what the written part says of the error class at C, its def f of __init__ (name, text), and what these lean on -/
structure ErrC (prog : Program) (K : PySem.W.Frag) (C f : Addr) (qual y : Str) (params : Arguments)
    (body : List Stmt) (scope : Scope) (fd : FuncData) : Prop where
  ox : OexC K C
  fn : ∃ (oc : Value) (od : Option Addr) (dV kV doc pm : Value) (an : Option Addr) (cda cc : Addr) (ct : Value)
    (osl : Array (Option Value)) (ccl cl : Value) (cdd cld : Option Addr) (vs : Array Value) (ccs csl : Array (Option Value)) (file : Str) (tf : Tok),
    fd = PySem.W.ksFn "__init__" qual params body scope dV kV doc pm an (.ref cda) ct cc ∧
    K.lookup f = some ⟨oc, od, .func fd, osl⟩ ∧ PySem.W.codeIn K (.ref cda) qual = true ∧
    K.lookup cda = some ⟨ccl, cdd, .fields vs, ccs⟩ ∧ vs[2]? = some (.str file tf) ∧
    ((prog.main.file : Str) == file) = true ∧ K.lookup cc = some ⟨cl, cld, .cell (some (.ref C)), csl⟩
  any_ : PySem.W.nsIn K cStatics "thirdparty.any" = some none
  sup : PySem.W.ks_superIn K C C "__init__" = some (some (.builtin "ValueError.__init__"))
  sub : PySem.W.subIn K (.ref C) (.type "ValueError") = some true
  self_ : PySem.W.mroIn K C (.ref C) = some true
  no : PySem.W.findIn K (.ref C) y = some none
  ini : PySem.W.findIn K (.ref C) "__init__" = some (some (.ref f))
  typ : PySem.W.typeIn K (.ref f) = some (.type "function")

/-- the promise of such an __init__ -/
def spErr (K : PySem.W.Frag) (C : Addr) (y : Str) : Sp := fun vs H Q _ => ∃ (a : Addr) (v : V), vs = [.ref a, v] ∧
  H a = some (exo a C none) ∧ ∀ dx, H dx = none → dx ≠ a →
    Q .non (upd (upd H dx (exd dx [(y, v)])) a (exo a C (some dx)))


section
variable {P : Program} {w : World} {K : PySem.W.Frag} {mg : Str → Option Value} {base : Heap}
theorem fn_err {f C : Addr} {fd : FuncData} {qual y : Str} {params : Arguments} {body : List Stmt} {scope : Scope}
    {CX : CXT} {msg : Str} {j : Nat} {p0 p1 p2 p3 p4 p5 q0 q1 q2 q3 : Pos} {ar : Arg} {ars : List Arg}
    (T : ErrC P K C f qual y params body scope fd)
    (hbody : body = [.Expr (.Call (.Attribute (.Call (.Name "super" p0) [] [] p1) "__init__" p2) [.Constant (.str msg) j p3] [] p4) p5,
      .Assign [.Attribute (.Name "self" q0) y q1] (.Name y q2) q3])
    (hsc : scope.names = ([(("self" : Str), NameKind.local), (y, .local), (("__class__" : Str), .free), (("super" : Str), .globalImplicit)] : List (Str × NameKind)))
    (hk : scope.kind = .function) (hco : scope.isCoroutine = false) (hgen : scope.isGenerator = false)
    (hpar : (params.posonlyargs ++ params.args).head? = some ar) (har : ar.arg = "self")
    (hsup : mg "super" = none) (htop : (P.main.scope.names.lookup ("super" : Str)).isSome = false)
    (hy1 : ¬ y = "self") (hy2 : ¬ y = "__class__") (hy3 : ¬ y = "super") (hmsg : msg.length ≤ 1000)
    {pl : Env → Sem Bool} (hev : ∀ env : Env,
      eval (.Call (.Attribute (.Call (.Name "super" p0) [] [] p1) "__init__" p2) [.Constant (.str msg) j p3] [] p4) env = (do
        let ov ← attributeBase (.Call (.Name "super" p0) [] [] p1) "__init__" env (eval (.Call (.Name "super" p0) [] [] p1) env)
        standAt p2.atName
        let (g, first) ← holding [ov] (getMethod ov "__init__" (pl env))
        callWith p4 g first (backTo p4 (starEach [.Constant (.str msg) j p3] env)) []))
    (hyd : (y == ("__debug__" : Str)) = false) (hyc : (y == ("__classdict__" : Str)) = false) :
    FnG P w K mg base CX 2 f fd ([("self" : Str), y] : List Str) (spErr K C y) := by
  refine ⟨fun vs H Q E h => ?_, fun A outer s H args us vs Q E hr hG e0 hb r hsp => ?_⟩
  · obtain ⟨a, v, rfl, _⟩ := h
    rfl
  obtain ⟨oc, od, dV, kV, doc, pm, an, cda, cc, ct, osl, ccl, cl, cdd, cld, fvs, ccs, csl, file, tf, rfl, lk, hcd, lcd, hvs, hfile, lcc⟩ := T.fn
  obtain ⟨a, v, rfl, ha, q⟩ := hsp
  obtain ⟨u0, u, rfl, r0, ru⟩ := vals2 r
  obtain rfl : u0 = Value.ref a := r0
  have up : ∀ b o, base.get? b = some o → s.heap.get? b = some o := fun b o e => (e0.bs b o e).1
  have KX : K.In s.heap := e0.mod.kin.keeps up
  have lim : s.heap.NoLimit := e0.mod.nolimit.keeps up
  have l1 : scope.names.lookup ("self" : Str) = some .local := by rw [hsc]; rfl
  have l2 : scope.names.lookup y = some .local := by
    rw [hsc]
    have e : (y == ("self" : Str)) = false := by simpa using hy1
    simp [List.lookup, e]
  have l3 : scope.names.lookup ("__class__" : Str) = some .free := by
    rw [hsc]
    have e : (("__class__" : Str) == y) = false := by simpa using fun z => hy2 z.symm
    have e2 : (("__class__" : Str) == ("self" : Str)) = false := by decide +kernel
    simp [List.lookup, e, e2]
  have l4 : scope.names.lookup ("super" : Str) = some .globalImplicit := by
    rw [hsc]
    have e : (("super" : Str) == y) = false := by simpa using fun z => hy3 z.symm
    have e2 : (("super" : Str) == ("self" : Str)) = false := by decide +kernel
    have e3 : (("super" : Str) == ("__class__" : Str)) = false := by decide +kernel
    simp [List.lookup, e, e2, e3]
  refine ks_codeAny_call_defAt (fd := PySem.W.ksFn "__init__" qual params body scope dV kV doc pm an (.ref cda) ct cc)
    (body := body) (binds := ([("self" : Str), y] : List Str).zip [Value.ref a, u]) hr.depth (KX _ _ lk) rfl lim
    (PySem.W.codeRec_of KX hcd) rfl hb ?_ ?_ (fun h1 hns hk1 => ?_) hco hgen hk
  · intro x hx
    have hx' : x ∈ scope.names := hx
    rw [hsc] at hx'
    simp only [List.mem_cons, List.not_mem_nil, or_false] at hx'
    rcases hx' with rfl | rfl | rfl | rfl <;> simp
  · intro x hx
    simp only [List.zip_cons_cons, List.zip_nil_left, List.mem_cons, List.not_mem_nil, or_false] at hx
    rcases hx with rfl | rfl
    · exact l1
    · exact l2
  generalize hE : callEnv (PySem.W.ksFn "__init__" qual params body scope dV kV doc pm an (.ref cda) ct cc) s.heap.objs.size f = env
  have eenv : env = PySem.W.ksEnv qual scope s.heap.objs.size f (.ref cda) cc := by rw [← hE] <;> rfl
  have hcells : env.cells = ([(("__class__" : Str), cc)] : List (Str × Addr)) := by rw [eenv]
  let X : Cx := { prog := P, w := w, K := K, mg := mg, base := base, A := A.deeper env, N := [("self" : Str), y], s_0 := s, H_0 := H, env := env, outer := outer, stack := env :: outer, ex := [], calm := true, fn := fun _ => false, pn := [], xe := fun _ _ => False }
  have bcc : base.get? cc = some ⟨cl, cld, .cell (some (.ref C)), csl⟩ := e0.mod.kin _ _ lcc
  have okX : X.Ok := {
    mod := e0.mod
    kind := by show env.scope.kind = .function; rw [eenv]; exact hk
    glob := by show env.globals = _; rw [eenv]
    blt := by show env.builtins = _; rw [eenv]
    above := by show s.heap.objs.size ≤ env.locals; rw [eenv]; exact Nat.le_refl _
    inj := fun x z c h1 h2 => by
      have h1' : env.cells.lookup x = some c := h1
      have h2' : env.cells.lookup z = some c := h2
      rw [hcells] at h1' h2'
      have k1 : x = "__class__" := by
        have := PySem.mem_of_lookup h1'
        simp at this; exact this.1
      have k2 : z = "__class__" := by
        have := PySem.mem_of_lookup h2'
        simp at this; exact this.1
      rw [k1, k2]
    has := fun x hx => by
      have hx' : scope.names.lookup x = some .cell ∨ scope.names.lookup x = some .free := by
        have z : env.scope.names.lookup x = some .cell ∨ env.scope.names.lookup x = some .free := hx
        rw [eenv] at z; exact z
      have hm : x = "__class__" := by
        rcases hx' with hx' | hx' <;> (have := PySem.mem_of_lookup hx'; rw [hsc] at this; simp at this)
        exact this
      exact ⟨cc, by show env.cells.lookup x = some cc; rw [hcells, hm]; rfl⟩
    cab := fun x c h _ => by cases h
    hd := fun _ => hr.hd
    frames := Around.frames_deeper e0.frames
    stk := .inr ⟨rfl, by show env.frame = some env.locals; rw [eenv]⟩
    exf := fun b z => by cases z
    bs := e0.bs
    bsz := e0.bsz
    noex := fun b o _ z => by cases z
    exfs := fun b z => by cases z
    funs := e0.funs
    frf := e0.frf }
  have elocs : env.locals = s.heap.objs.size := by rw [eenv]
  have ekind : env.scope.kind = .function := by rw [eenv]; exact hk
  have enames : env.scope.names = scope.names := by rw [eenv]
  have bm : ([("self" : Str), y].zip [Value.ref a, u]).reverse = [(y, u), (("self" : Str), Value.ref a)] := rfl
  rw [bm] at hns
  have ey : (("self" : Str) == y) = false := by simpa using fun z => hy1 z.symm
  have m1 : List.lookup ("self" : Str) [(y, u), (("self" : Str), Value.ref a)] = some (Value.ref a) := by
    simp [List.lookup, ey]
  have m2 : List.lookup y [(y, u), (("self" : Str), Value.ref a)] = some u := by
    simp [List.lookup]
  have hns' : h1.Ns env.locals (fun x => List.lookup x [(y, u), (("self" : Str), Value.ref a)]) := by rw [elocs]; exact hns
  have hcc1 : (Heap.IsCell h1 cc (some (.ref C))) := ⟨_, hk1 _ _ (up _ _ bcc), rfl⟩
  have onecell : ∀ x c, env.cells.lookup x = some c → c = cc := fun x c hx => by
    rw [hcells] at hx
    have := PySem.mem_of_lookup hx
    simp at this
    exact this.2
  have I : Inv X [] [some (.ref a), some v] H { s with heap := h1, toks := s.toks + ([("self" : Str), y].zip [Value.ref a, u]).length } := {
    ok := okX
    os := rfl
    bare := e0.bare
    base := Un.kept hk1
    loc := ⟨_, hns', fun i x z n1 n2 n3 => by
      match i, n1, n2 with
      | 0, n1, n2 =>
        cases (show some ("self" : Str) = some x from n1)
        cases (show some (some (V.ref a)) = some (some z) from n2)
        exact ⟨_, rfl, .inl ⟨by show env.scope.names.lookup _ = _; rw [enames]; exact l1, m1⟩⟩
      | 1, n1, n2 =>
        cases (show some y = some x from n1)
        cases (show some (some v) = some (some z) from n2)
        exact ⟨u, ru, .inl ⟨by show env.scope.names.lookup _ = _; rw [enames]; exact l2, m2⟩⟩
      | i + 2, n1, n2 => cases (show (none : Option Str) = some x from n1)⟩
    cell := fun x c hx => ⟨some (.ref C), (onecell x c hx).symm ▸ hcc1⟩
    free := by show H env.locals = none; rw [elocs]; exact e0.hok.fresh (Nat.le_refl _)
    freeC := fun x c hx => by rw [onecell x c hx]; exact (e0.bs _ _ bcc).2
    pin := fun p hp => by cases hp
    hok := e0.hok.kept hk1
    len := rfl }
  subst hbody
  obtain ⟨nm, qn, N, bs, bm', sn, sub, ab, col, dd, k0, k1, k2, k3, k5, lC, hbm⟩ := T.ox.cls
  have hcl : PySem.W.clsIn K C = some { name := nm, bases := bs, mro := .ref C :: bm', ns := N, qualname := qn, hasDict := true, slotNames := sn, subclasses := sub, abstract := ab, collection := col, hasDel := false } := by
    unfold PySem.W.clsIn; rw [lC] <;> rfl
  refine ks_wpAt_execs_cons (ks_wpAt_Expr_any (ks_wpAt_MethodCall ?_ (hev env)) I.quiet)
  have e1 : env.kindOf "super" = some .globalImplicit := by show env.scope.names.lookup _ = _; rw [enames]; exact l4
  have e2 : env.kindOf "__class__" = some .free := by show env.scope.names.lookup _ = _; rw [enames]; exact l3
  have e3 : env.kindOf "self" = some .local := by show env.scope.names.lookup _ = _; rw [enames]; exact l1
  have e4 : env.func = some f := by rw [eenv]
  have e5 : env.code = .ref cda := by rw [eenv]
  refine ks_wpAt_super_base e1 e2 (by decide +kernel) e4 (hk1 _ _ (KX _ _ lk)) rfl hpar e5 (hk1 _ _ (KX _ _ lcd)) rfl hvs hfile htop ?_
  obtain ⟨mb, b1, b2⟩ := e0.mod.blt
  have up1 : ∀ b o, base.get? b = some o → h1.get? b = some o := fun b o e => hk1 _ _ (up b o e)
  have g1 : env.globals = mainGlobals := by rw [eenv]
  have g2 : env.builtins = builtinsNs := by rw [eenv]
  refine PySem.W.ks_loadName_global ekind e1 (Calls.loadGlobal_builtin (by rw [g1]; exact e0.mod.glob.keeps up1) hsup (by rw [g2]; exact b1.keeps up1) ((b2 _ (by decide +kernel)).trans (by decide +kernel)) ⟨rfl, ?_⟩)
  refine wpAny_loadName_free ekind e2 (by rw [hcells]; rfl) hcc1 ?_
  rw [har]
  refine wpAny_loadName_local ekind e3 hns' m1 ?_
  have KX1 : K.In h1 := KX.keeps hk1
  refine ks_wpAny_isType_cls (KX1 _ _ lC) rfl ⟨rfl, ?_⟩
  obtain ⟨t1, hx1⟩ := exo_at I.hok ha
  have iat : PySem.W.InstAt h1 a (PySem.W.excObj C t1 none .none) C none := ⟨hx1, rfl, rfl, trivial⟩
  refine ks_wpAny_call_super (KX1 _ _ lC) rfl hx1 rfl (fun c e => by cases e) (PySem.W.looks_mroIn KX1 T.self_) fun h2 hso hk2 => ?_
  have I2 := I.kept (t' := s.toks + ([("self" : Str), y].zip [Value.ref a, u]).length) hk2
  have KX2 : K.In h2 := KX1.keeps hk2
  have iat2 : PySem.W.InstAt h2 a (PySem.W.excObj C t1 none .none) C none := ⟨hk2 _ _ hx1, rfl, rfl, trivial⟩
  have hsu := T.sup
  unfold PySem.W.ks_superIn at hsu
  rw [hcl] at hsu
  refine PySem.W.kxs_getMethod PySem.W.kxs_ValueError hso (PySem.W.looks_opaque KX2 T.any_) (l₀ := .ref C :: bm')
    ((PySem.W.looks_clsIn KX2 hcl).andThen .now) rfl KX2 hsu (iat2.type.andThen (PySem.W.looks_subIn KX2 T.sub))
    (PySem.W.ks_ne KX2 iat2 hcl) (by decide +kernel) ?_
  have kp : ∀ b o, h2.get? b = some o → (h2.push (PySem.W.kxs_mw "ValueError.__init__" a)).get? b = some o :=
    fun b o e => Heap.get?_push_of_some _ e
  have I3 := I2.kept (t' := s.toks + ([("self" : Str), y].zip [Value.ref a, u]).length + 1) kp
  have hmw : (h2.push (PySem.W.kxs_mw "ValueError.__init__" a)).get? h2.objs.size = some (PySem.W.kxs_mw "ValueError.__init__" a) := Heap.get?_push_at rfl rfl
  refine PySem.W.kxs_callWith (i := "ValueError.__init__") (x := a) rfl (Calls.evalArgs_plain ?_)
  refine Calls.spliced_cons (Calls.Constant_str (k := j) (pos := p3) ?_)
  refine Calls.spliced_nil ⟨hmw, ?_⟩
  have I3' := I3.tok (s.toks + ([("self" : Str), y].zip [Value.ref a, u]).length + 1 + 1)
  refine call_mw ((KX2.keeps kp) _ _ lC) (kp _ _ (hk2 _ _ hx1)) hmw (by show 1 ≤ sizeLine; decide) fun h4 k4 hx4 => ?_
  have J := I3'.write (t' := s.toks + ([("self" : Str), y].zip [Value.ref a, u]).length + 1 + 1) (x := a) (e := a) (o := exo a C none) (by rw [ha]; exact True.intro) (.inl rfl) k4 ⟨_, hx4⟩ (exo_ok hx4)
  have eu : upd H a (exo a C none) = H := by
    funext b
    by_cases hb' : b = a
    · rw [hb', upd_same, ha]
    · rw [upd_ne hb']
  rw [eu] at J
  show PySem.wpAt _ _ _ _ _ _ _
  refine wpAt_of_wpAny ?_
  have P1 : PE X (.Name "self" q0) (tVar 0) := pe_var (i := 0) rfl (.inl e3) (by decide) (by decide)
  have P2 : PE X (.Name y q2) (tVar 1) := pe_var (i := 1) rfl (.inl (by show env.scope.names.lookup _ = _; rw [enames]; exact l2)) hyd hyc
  have body2 : PSs X [.Assign [.Attribute (.Name "self" q0) y q1] (.Name y q2) q3] (tOst K y (tVar 0) (tVar 1)) := pss_one (ps_ost P1 P2)
  refine wpAny_mono (body2.run [] _ _ H { nx := fun _ H' => Q .non H', rt := fun _ _ => False } J
    ⟨v, rfl, V.ref a, rfl, a, C, rfl, T.ox, T.no, .inl ⟨ha, fun dx n ne => q dx n ne⟩⟩) (fun fl s' hs => ?_) fun _ _ z => False.elim z
  match fl, hs with
  | .next, ⟨σ', H', J', q'⟩ => exact ⟨V.non, H', J'.os, J'.bare, J'.base, J'.hok, rfl, q'⟩
  | .ret _, ⟨_, _, _, _, _, q'⟩ => exact False.elim q'
  | .brk, ⟨_, _, _, q'⟩ => exact False.elim q'
  | .cont, ⟨_, _, _, q'⟩ => exact False.elim q'
end
end Rm

set_option maxRecDepth 100000
set_option maxHeartbeats 4000000
namespace Rm
open PySem PySem.Spec L2
open PyProof.Rows hiding St

/-- an own error class: x names the class at C, whose __init__ stores y -/
def Er (P : Program) (w : World) (K : PySem.W.Frag) (mg : Str → Option Value) (base : Heap) (x : Str)
    (C : Addr) (y : Str) : Prop :=
  ∃ f fd, mg x = some (.ref C) ∧ OexC K C ∧ PySem.W.findIn K (.ref C) "__init__" = some (some (.ref f)) ∧
    PySem.W.typeIn K (.ref f) = some (.type "function") ∧ PySem.W.keepIn K (.ref C) = true ∧
    Binds K fd [("self" : Str), y] [] ∧ FnG P w K mg base CX0 2 f fd [("self" : Str), y] (spErr K C y)

section
variable {X : Cx} {C : Addr} {y : Str}
/-- the call of the class: what stands behind it -/
structure Born (X : Cx) (pins : List (Addr × Obj)) (σ : L2.St) (H : Hp) (s : Shared) (C : Addr) (y : Str) (v : V) (u : Value) (s' : Shared) : Prop where
  ex : ∃ (a d : Addr) (hp2 : Heap), u = .ref a ∧ s.heap.objs.size ≤ a ∧ H a = none ∧ H d = none ∧ d ≠ a ∧
    (∀ b o, s.heap.get? b = some o → hp2.get? b = some o) ∧
    Un (frs X.stack) [] (upd H a (exo a C none)) (upd (upd (upd H a (exo a C none)) d (exd d [(y, v)])) a (exo a C (some d))) hp2 s'.heap ∧
    HOk X.prog X.w (upd (upd (upd H a (exo a C none)) d (exd d [(y, v)])) a (exo a C (some d))) s'.heap ∧ s'.os = s.os ∧ AllBare s'.gens

theorem born {x : Str} {pins : List (Addr × Obj)} {σ : L2.St} {H : Hp} {s : Shared} {v : V} {u : Value} {E : Value → Shared → Prop}
    (D : Er X.prog X.w X.K X.mg X.base x C y) (hr : Room 3 X.A) (hG : Gd X.A) (I : Inv X pins σ H s) (r : RelV v u) :
    wpAny (model X.prog X.w) X.A (call (.ref C) [u]) (Born X pins σ H s C y v) E s := by
  obtain ⟨f, fd, hm, T, iC, tI, kC, hb, F0⟩ := D
  obtain ⟨nm, q, N, bs, bm, sn, sub, ab, col, dd, k0, k1, k2, k3, k5, lC, hbm⟩ := T.cls
  obtain ⟨hp, g, dr, tk, os⟩ := s
  have one : hp.objs.size ≤ hp.objs.size + 1 := Nat.le_succ _
  have hn : H (hp.objs.size + 1) = none := I.hok.fresh one
  let hp2 := (hp.push (PySem.W.kdv_tup [u])).push (PySem.HandSPX.excO C hp.objs.size)
  have kk : ∀ b o, hp.get? b = some o → hp2.get? b = some o := fun b o e =>
    Heap.get?_push_of_some _ (Heap.get?_push_of_some _ e)
  have hget : hp2.get? (hp.objs.size + 1) = some (PySem.HandSPX.excO C hp.objs.size) := by
    show ((hp.push _).push _).get? _ = _
    heap_get
  have I2 := I.laid (t' := tk) (a := hp.objs.size + 1) (o := exo (hp.objs.size + 1) C none) (h' := hp2) kk one (exo_ok hget)
  have both : Vals [V.ref (hp.objs.size + 1), v] [Value.ref (hp.objs.size + 1), u] := .cons rfl (.cons r .nil)
  have hsp : spErr X.K C y [V.ref (hp.objs.size + 1), v] (upd H (hp.objs.size + 1) (exo (hp.objs.size + 1) C none))
      (fun z H2 => z = .non ∧ ∃ d, H d = none ∧ d ≠ hp.objs.size + 1 ∧
        H2 = upd (upd (upd H (hp.objs.size + 1) (exo (hp.objs.size + 1) C none)) d (exd d [(y, v)])) (hp.objs.size + 1) (exo (hp.objs.size + 1) C (some d)))
      (fun _ _ _ => False) :=
    ⟨_, v, rfl, upd_same, fun d n ne => ⟨rfl, d, by rw [upd_ne ne] at n; exact n, ne, rfl⟩⟩
  refine wpAny_call (PySem.HandSPX.call_own F.excBase_ValueError (fun Y => PySem.HandSPX.refsVE_contains Y bm hbm)
    (I.kIn _ _ lC) (PySem.W.looks_findIn I.kIn iC) (fun self => PySem.W.bind_fn I.kIn self tI) (by show 1 ≤ sizeLine; decide)
    (codeAny_mono (F0.run _ X.stack _ _ ⟨[Value.ref (hp.objs.size + 1), u], []⟩ _ _ _ (fun _ _ _ => False)
      (hr.make C [u] []) (hG.make C [u] []) (I2.env0.make C [u] []) (hb _ [Value.ref (hp.objs.size + 1), u] I2.kIn rfl) both hsp)
      fun rr s' hq => ?_))
  match rr, hq with
  | .ok (.ret z), ⟨zz, H2, os2, bare2, un2, hok2, rz, ez, d, hd, ne, eH⟩ =>
    subst ez
    subst eH
    exact ⟨rz, ⟨_, d, hp2, rfl, one, hn, hd, ne, kk, un2, hok2, os2, bare2⟩⟩
  | .error er, hq => exact False.elim hq
  | .ok .next, hq => exact False.elim hq
  | .ok .brk, hq => exact False.elim hq
  | .ok .cont, hq => exact False.elim hq

theorem born_eq {H : Hp} {a d : Addr} {o1 o2 o3 : HO} (ne : d ≠ a) :
    upd (upd (upd H a o1) d o2) a o3 = upd (upd H d o2) a o3 := by
  funext b
  by_cases h1 : b = a
  · rw [h1, upd_same, upd_same]
  · rw [upd_ne h1, upd_ne h1]
    by_cases h2 : b = d
    · rw [h2, upd_same, upd_same]
    · rw [upd_ne h2, upd_ne h2, upd_ne h1]

/-- C(e) as a value: a new error, its dict -/
def tBorn (C : Addr) (y : Str) (te : TE) : TE := fun σ H Q => tCons te tNil σ H fun vs H1 => ∃ v, vs = [v] ∧ ∀ a d, H1 a = none → H1 d = none → d ≠ a →
  Q (.ref a) (upd (upd H1 d (exd d [(y, v)])) a (exo a C (some d)))
/-- C(e) to be raised: its dict stands as an exception's dict -/
def tErr (C : Addr) (y : Str) (te : TE) : L2.St → Hp → XK → Prop := fun σ H Q => tCons te tNil σ H fun vs H1 => ∃ v, vs = [v] ∧ ∀ d, H1 d = none →
  Q (.ref C) (some d) (upd H1 d (.xd [(y, v)]))
variable {x : Str} {e : Expr} {te : TE} {p pos : Pos}
theorem pe_er (D : Er X.prog X.w X.K X.mg X.base x C y) (hr : Room 3 X.A) (hG : Gd X.A) (he : PE X e te) (hg : Gl X x := by rfl)
    (hdb : (x == ("__debug__" : Str)) = false := by decide)
    (hs : starEach [e] X.env = (false, eval e X.env) :: starEach [] X.env := by rfl)
    (hpl : (backTo pos (starEach [] X.env)).any (·.1) = false := by rfl) :
    PE X (.Call (.Name x p) [e] [] pos) (tBorn C y te) := by
  have D' := D
  obtain ⟨f, fd, hm, T, iC, tI, kC, hb, F0⟩ := D'
  refine ⟨fun pins s σ H Q I h => wpAny_Call_Name_kw (ld_glob I hg hm
    (PySem.W.callWith_K (h₀ := X.base) I.ok.mod.kin kC
      (thn ((pa_cons (X := X) (es := []) he pa_nil hs).run pos pins s σ H _ I (show tCons te tNil σ H _ from h)) fun us s1 ⟨vs, H1, I1, r, v, ev, q⟩ => ⟨I1.kIn, ?_⟩) hs hpl) hdb)⟩
  subst ev
  obtain ⟨u, rfl, ru⟩ := vals1 r
  refine thn (born D hr hG I1 ru) fun u2 s2 B => ?_
  obtain ⟨a, d, hp2, rfl, sz, na, nd, ne, kk, un, hok, ho, hb2⟩ := B.ex
  rw [born_eq ne] at un hok
  refine ⟨.ref a, _, ?_, rfl, q a d na nd ne⟩
  have un0 : Un (frs X.stack) [] H1 (upd (upd H1 d (exd d [(y, v)])) a (exo a C (some d))) s1.heap s2.heap := by
    have nha : ∀ {b : Addr} {o : Obj}, s1.heap.get? b = some o → b ≠ a := fun z => Nat.ne_of_lt (Nat.lt_of_lt_of_le (Heap.lt_size z) sz)
    have upn : ∀ {b : Addr}, b ≠ a → H1 b = none → upd H1 a (exo a C none) b = none := fun hb n => by rw [upd_ne hb]; exact n
    exact {
      keep := fun b o z n hf hx => un.keep b o (kk b o z) (upn (nha z) n) hf hx
      slot := fun b o z n hf hx => un.slot b o (kk b o z) (upn (nha z) n) hf hx
      free := fun b o z n hx => un.free b o (kk b o z) (upn (nha z) n) hx
      there := fun b o z hx => un.there b o (kk b o z) hx
      tups := fun b xs z => un.tups b xs (by rw [upd_ne (ne_of_none z na)]; exact z)
      frzs := fun b o w z => un.frzs b o w (by rw [upd_ne (ne_of_none z na)]; exact z)
      tbls := fun b ps z => un.tbls b ps (by rw [upd_ne (ne_of_none z na)]; exact z) }
  exact I1.call' (ch := []) ho un0 hok hb2 fun b z => absurd z (by simp)
/-- raise C(e) -/
theorem pmk_er (D : Er X.prog X.w X.K X.mg X.base x C y) (hr : Room 3 X.A) (hG : Gd X.A) (he : PE X e te) (hg : Gl X x := by rfl)
    (hdb : (x == ("__debug__" : Str)) = false := by decide)
    (hs : starEach [e] X.env = (false, eval e X.env) :: starEach [] X.env := by rfl)
    (hpl : (backTo pos (starEach [] X.env)).any (·.1) = false := by rfl) :
    PMk X (.Call (.Name x p) [e] [] pos) (tErr C y te) := by
  have D' := D
  obtain ⟨f, fd, hm, T, iC, tI, kC, hb, F0⟩ := D'
  intro pins s σ H Q I h
  refine wpAny_Call_Name_kw (ld_glob I hg hm (PySem.W.callWith_K (h₀ := X.base) I.ok.mod.kin kC
    (thn ((pa_cons (X := X) (es := []) he pa_nil hs).run pos pins s σ H _ I (show tCons te tNil σ H _ from h)) fun us s1 ⟨vs, H1, I1, r, v, ev, q⟩ => ⟨I1.kIn, ?_⟩) hs hpl) hdb)
  subst ev
  obtain ⟨u, rfl, ru⟩ := vals1 r
  refine thn (born D hr hG I1 ru) fun u2 s2 B => ?_
  obtain ⟨a, d, hp2, rfl, sz, na, nd, ne, kk, un, hok, ho, hb2⟩ := B.ex
  obtain ⟨h1, g1, d1, t1, o1⟩ := s1
  obtain ⟨h2, g2, d2, t2, o2⟩ := s2
  have q2 := q d nd
  have eq : upd (del (upd (upd (upd H1 a (exo a C none)) d (exd d [(y, v)])) a (exo a C (some d))) a) d (.xd [(y, v)]) = upd H1 d (.xd [(y, v)]) := by
    funext b
    by_cases h1 : b = d
    · rw [h1, upd_same, upd_same]
    · rw [upd_ne h1, upd_ne h1]
      by_cases h2 : b = a
      · rw [h2, del_same, na]
      · rw [del_ne h2, upd_ne h2, upd_ne h1, upd_ne h2]
  rw [← eq] at q2
  have ed : (upd (upd (upd H1 a (exo a C none)) d (exd d [(y, v)])) a (exo a C (some d))) d = some (exd d [(y, v)]) := by
    rw [upd_ne ne, upd_same]
  exact mk_end (raises_own T.exC T.tyC) I1 sz kk un hok ho hb2 upd_same ed nd q2
end
end Rm

set_option maxRecDepth 100000
set_option maxHeartbeats 4000000
namespace Rm
open PySem PySem.Spec L2
open PyProof.Rows hiding St

/-! ### calls whose errors are wished for at the caller's names -/
section
variable {X : Cx} {CX : CXT} {k : Nat} {f C : Addr} {fd : FuncData} {ps : List Str} {sp : Sp}
variable {dvs : List V} {ds : List Value} {E : L2.St → XK} {x m : Str} {p pos apos : Pos} {e o : Expr}
variable {es : List Expr} {ta : TE} {t : TA}
/-- behind a callee's end -/
theorem cameS {pins : List (Addr × Obj)} {σ : St} {H : Hp} {s s' : Shared} {Q : VK} {r : Result}
    (hx : ∀ σ, PassesAt CX X σ (E σ)) (I : Inv X pins σ H s)
    (hq : CR CX X.stack X.prog X.w H s Q (E σ) r s') :
    wants (EP X pins σ Q) X.xe r s' := by
  match r, hq with
  | .error e, hq => exact hx σ pins H s e s' I hq
  | .ok (.ret u), hq => exact I.after hq
  | .ok .next, hq => exact False.elim hq
  | .ok .brk, hq => exact False.elim hq
  | .ok .cont, hq => exact False.elim hq

theorem goesS {pins : List (Addr × Obj)} {σ : St} {H : Hp} {s : Shared} {Q : VK}
    {us : List Value} {vs : List V}
    (F : FnG X.prog X.w X.K X.mg X.base CX k f fd ps sp) (hr : Room k X.A) (hG : Gd X.A)
    (hb : Binds X.K fd ps ds) (hd : Vals dvs ds) (hx : ∀ σ, PassesAt CX X σ (E σ))
    (I : Inv X pins σ H s) (r : Vals vs us) (h : sp (vs ++ dvs) H Q (E σ)) :
    wpAny (model X.prog X.w) X.A (call (.ref f) us) (EP X pins σ Q) X.xe s := by
  have both := r.append hd
  have hl : (us ++ ds).length = ps.length := both.length.symm.trans (F.len _ _ _ _ h)
  exact wpAny_call (codeAny_mono (F.run X.A X.stack s H ⟨us, []⟩ _ _ Q (E σ) hr hG I.env0
    (hb s us I.kIn hl) both h) fun r s' hq => cameS hx I hq)

theorem growsS {pins : List (Addr × Obj)} {σ : St} {H : Hp} {s : Shared} {Q : VK}
    {us : List Value} {vs : List V} (M : Mk X.K C f)
    (F : FnG X.prog X.w X.K X.mg X.base CX k f fd ps sp) (hr : Room (k + 1) X.A) (hG : Gd X.A)
    (hb : Binds X.K fd ps ds) (hd : Vals dvs ds) (hx : ∀ σ, PassesAt CX X σ (E σ))
    (I : Inv X pins σ H s) (r : Vals vs us)
    (h : ∀ y dx, H y = none → H dx = none → dx ≠ y →
      sp (.ref y :: (vs ++ dvs)) (upd (upd H dx (.own y)) y (.ins C dx []))
        (fun v H2 => v = .non ∧ Q (.ref y) H2) (E σ)) :
    wpAny (model X.prog X.w) X.A (call (.ref C) us) (EP X pins σ Q) X.xe s := by
  have n1 : H (s.heap.objs.size + 1) = none := I.hok.fresh (Nat.le_succ _)
  have n0 : H s.heap.objs.size = none := I.hok.fresh (Nat.le_refl _)
  have hq := h _ _ n1 n0 (Nat.ne_of_lt (Nat.lt_succ_self _))
  have I2 := Inv.made (C := C) I
  have both : Vals (V.ref (s.heap.objs.size + 1) :: (vs ++ dvs))
      (Value.ref (s.heap.objs.size + 1) :: (us ++ ds)) := .cons rfl (r.append hd)
  have hl : (Value.ref (s.heap.objs.size + 1) :: us ++ ds).length = ps.length :=
    both.length.symm.trans (F.len _ _ _ _ hq)
  refine wpAny_call (make_map (f := f) I.kIn M.makes M.init (beq_iff_eq.mp M.fn)
    (codeAny_mono (F.run _ X.stack _ _ ⟨Value.ref (s.heap.objs.size + 1) :: us, []⟩ _ _ _ (E σ)
      (hr.make C us []) (hG.make C us []) (I2.env0.make C us [])
      (hb _ (Value.ref (s.heap.objs.size + 1) :: us) I2.kIn hl) both hq) fun r s' hq' => ?_))
  match r, hq' with
  | .error er, hq' => exact hx σ pins _ _ er s' I2 hq'
  | .ok (.ret u), hq' =>
    obtain ⟨v, H', I3, rv, ev, q3⟩ := I2.after hq'
    subst ev
    exact ⟨rv, V.ref (s.heap.objs.size + 1), H', I3, rfl, q3⟩
  | .ok .next, hq' => exact False.elim hq'
  | .ok .brk, hq' => exact False.elim hq'
  | .ok .cont, hq' => exact False.elim hq'


def tCallE (sp : Sp) (E : L2.St → XK) (t : TA) : TE := fun σ H Q => t σ H fun vs H1 => sp vs H1 Q (E σ)
def tMethE (C : Addr) (m : Str) (sp : Sp) (E : L2.St → XK) (ta : TE) (t : TA) : TE := fun σ H Q => ta σ H fun x H1 =>
  ∃ a dx fs, x = .ref a ∧ H1 a = some (.ins C dx fs) ∧ fs.lookup m = none ∧ t σ H1 fun vs H2 => sp (x :: vs) H2 Q (E σ)
def tMakeE (C : Addr) (sp : Sp) (E : L2.St → XK) (t : TA) : TE := fun σ H Q => t σ H fun vs H1 => ∀ x dx, H1 x = none → H1 dx = none → dx ≠ x →
  sp (.ref x :: vs) (upd (upd H1 dx (.own x)) x (.ins C dx [])) (fun v H2 => v = .non ∧ Q (.ref x) H2) (E σ)
theorem pe_ceE (D : Ce X.prog X.w X.K X.mg X.base CX k x ps sp) (hr : Room k X.A) (hG : Gd X.A)
    (ha : PA X (e :: es) t) (hx : ∀ σ, PassesAt CX X σ (E σ)) (hg : Gl X x := by rfl)
    (hdb : (x == ("__debug__" : Str)) = false := by decide)
    (he : starEach (e :: es) X.env = (false, eval e X.env) :: starEach es X.env := by rfl)
    (hpl : (backTo pos (starEach es X.env)).any (·.1) = false := by rfl) :
    PE X (.Call (.Name x p) (e :: es) [] pos) (tCallE sp E t) :=
  let ⟨_, _, hm, hk, hb, F⟩ := D
  ⟨fun pins s σ H Q I h => wpAny_Call_Name_kw (ld_glob I hg hm
    (PySem.W.callWith_K (h₀ := X.base) I.ok.mod.kin hk
      (thn (ha.run pos pins s σ H _ I h) fun us s1 ⟨vs, H1, I1, r, q⟩ =>
        ⟨I1.kIn, goesS (dvs := []) (ds := []) F hr hG hb .nil hx I1 r (by rw [List.append_nil]; exact q)⟩) he hpl) hdb)⟩
theorem pe_cnE (D : Cn X.prog X.w X.K X.mg X.base CX k x C ps sp) (hr : Room (k + 1) X.A) (hG : Gd X.A)
    (ha : PA X (e :: es) t) (hx : ∀ σ, PassesAt CX X σ (E σ)) (hg : Gl X x := by rfl)
    (hdb : (x == ("__debug__" : Str)) = false := by decide)
    (he : starEach (e :: es) X.env = (false, eval e X.env) :: starEach es X.env := by rfl)
    (hpl : (backTo pos (starEach es X.env)).any (·.1) = false := by rfl) :
    PE X (.Call (.Name x p) (e :: es) [] pos) (tMakeE C sp E t) :=
  let ⟨_, _, hm, M, hb, F⟩ := D
  ⟨fun pins s σ H Q I h => wpAny_Call_Name_kw (ld_glob I hg hm
    (PySem.W.callWith_K (h₀ := X.base) I.ok.mod.kin M.kp
      (thn (ha.run pos pins s σ H _ I h) fun us s1 ⟨vs, H1, I1, r, q⟩ =>
        ⟨I1.kIn, growsS (dvs := []) (ds := []) M F hr hG hb .nil hx I1 r (by rw [List.append_nil]; exact q)⟩) he hpl) hdb)⟩
theorem pe_cmE {pl : Sem Bool} (D : Cm X.prog X.w X.K X.mg X.base CX k C m ps sp) (hr : Room k X.A)
    (hG : Gd X.A) (he : PE X o ta) (ha : PA X (e :: es) t) (hx : ∀ σ, PassesAt CX X σ (E σ))
    (hst : starEach (e :: es) X.env = (false, eval e X.env) :: starEach es X.env := by rfl)
    (hpl : (backTo pos (starEach es X.env)).any (·.1) = false := by rfl)
    (ht : eval (.Call (.Attribute o m apos) (e :: es) [] pos) X.env = (do
      let ov ← eval o X.env
      standAt apos.atName
      let (g, first) ← holding [ov] (getMethod ov m pl)
      callWith pos g first (backTo pos (starEach (e :: es) X.env))
        (backToKw pos (keywordEach [] X.env))) := by rfl) :
    PE X (.Call (.Attribute o m apos) (e :: es) [] pos) (tMethE C m sp E ta t) := by
  obtain ⟨f, fd, c, hm, hb, F⟩ := D
  constructor
  intro pins s σ H Q I h
  refine PySem.W.methodCall_KW (pl := pl)
    (thn (he.run pins s σ H _ I h) fun u s1 ⟨y, H1, I1, ry, a, dx, fs, ey, ea, l, q⟩ => ?_) ht
  obtain rfl := ey
  have ru : u = Value.ref a := ry
  rw [ru]
  exact getmeth_ok I1 ea c hm l (PySem.W.callWith_K (first := [.ref a]) (h₀ := X.base)
    I.ok.mod.kin hm.kp (thn (ha.run pos pins s1 σ H1 _ I1 q) fun us s2 ⟨vs, H2, I2, r, q2⟩ =>
      ⟨I2.kIn, goesS (dvs := []) (ds := []) (us := .ref a :: us) (vs := .ref a :: vs) F hr hG hb .nil hx I2 (.cons rfl r) (by rw [List.append_nil]; exact q2)⟩) hst hpl)
theorem pe_cmE0 {pl : Sem Bool} (D : Cm X.prog X.w X.K X.mg X.base CX k C m ps sp) (hr : Room k X.A)
    (hG : Gd X.A) (he : PE X o ta) (hx : ∀ σ, PassesAt CX X σ (E σ))
    (ht : eval (.Call (.Attribute o m apos) [] [] pos) X.env = (do
      let ov ← eval o X.env
      standAt apos.atName
      let (g, first) ← holding [ov] (getMethod ov m pl)
      callWith pos g first (backTo pos (starEach [] X.env))
        (backToKw pos (keywordEach [] X.env))) := by rfl) :
    PE X (.Call (.Attribute o m apos) [] [] pos) (tMethE C m sp E ta tNil) := by
  obtain ⟨f, fd, c, hm, hb, F⟩ := D
  constructor
  intro pins s σ H Q I h
  refine PySem.W.methodCall_KW (pl := pl)
    (thn (he.run pins s σ H _ I h) fun u s1 ⟨y, H1, I1, ry, a, dx, fs, ey, ea, l, q⟩ => ?_) ht
  obtain rfl := ey
  have ru : u = Value.ref a := ry
  rw [ru]
  exact getmeth_ok I1 ea c hm l (PySem.W.callWith_K0 (first := [.ref a]) I1.kIn hm.kp
    (goesS (dvs := []) (ds := []) (us := [.ref a]) (vs := [.ref a]) F hr hG hb .nil hx I1 (.cons rfl .nil) q))
end
end Rm

set_option maxRecDepth 100000
set_option maxHeartbeats 4000000
namespace Rm
open PySem PySem.Spec L2
open PyProof.Rows hiding St
open SeqAt MeetsSeq

/-! ### a built-in value on the left declines an own instance on the right -/
section
variable {M : Model} {prog : Program} {w : World} {A : Around} {E : Value → Shared → Prop} {K : PySem.W.Frag} {x C : Addr} {ox : Obj} {od : Option Obj} {hp : Heap} {g : Array GenState} {d : Drawn} {tk : Nat} {os : OsState}
theorem look_in {T : String} (X : K.In hp) (I : PySem.W.InstAt hp x ox C od) (e : PySem.W.subIn K (.ref C) (.type T) = some false) :
    PySem.W.Looks M hp (isInstance (.ref x) (.type T)) false := I.type.andThen (PySem.W.looks_subIn X e)
theorem dec_int {dx : Addr} (X : K.In hp) (I : PySem.W.InstAt hp x (PySem.W.instObj C dx) C od) {a : Int} {t : Tok} {Q : Fin → Shared → Prop}
    (hq : Q (.done (.ret .notImplemented)) ⟨hp, g, d, tk, os⟩) : wpAny M A (Builtin.«int.__eq__» ⟨[.int a t, .ref x], []⟩) Q E ⟨hp, g, d, tk, os⟩ := by
  have hx := I.at_
  wp_walk using wpAny_load hx
  exact hq
theorem dec_bool {dx : Addr} (X : K.In hp) (I : PySem.W.InstAt hp x (PySem.W.instObj C dx) C od) {a : Bool} {Q : Fin → Shared → Prop}
    (hq : Q (.done (.ret .notImplemented)) ⟨hp, g, d, tk, os⟩) : wpAny M A (Builtin.«int.__eq__» ⟨[.bool a, .ref x], []⟩) Q E ⟨hp, g, d, tk, os⟩ := by
  have hx := I.at_
  wp_walk using wpAny_load hx
  exact hq
theorem dec_str {dx : Addr} (X : K.In hp) (I : PySem.W.InstAt hp x (PySem.W.instObj C dx) C od) {a : Str} {t : Tok} {Q : Fin → Shared → Prop}
    (hq : Q (.done (.ret .notImplemented)) ⟨hp, g, d, tk, os⟩) : wpAny M A (Builtin.«str.__eq__» ⟨[.str a t, .ref x], []⟩) Q E ⟨hp, g, d, tk, os⟩ := by
  have hx := I.at_
  wp_walk using wpAny_load hx
  exact hq
theorem dec_none {Q : Fin → Shared → Prop}
    (hq : Q (.done (.ret .notImplemented)) ⟨hp, g, d, tk, os⟩) : wpAny M A (Builtin.«NoneType.__eq__» ⟨[.none, .ref x], []⟩) Q E ⟨hp, g, d, tk, os⟩ := by
  wp_walk
  exact hq
theorem dec_list {dx l : Addr} (X : K.In hp) (I : PySem.W.InstAt hp x (PySem.W.instObj C dx) C od) (e : PySem.W.subIn K (.ref C) (.type "list") = some false)
    {Q : Fin → Shared → Prop}
    (hq : Q (.done (.ret .notImplemented)) ⟨hp, g, d, tk, os⟩) : wpAny M A (Builtin.«list.__eq__» ⟨[.ref l, .ref x], []⟩) Q E ⟨hp, g, d, tk, os⟩ := by
  have hL := look_in (M := M) X I e
  wp_walk using PySem.W.Looks.at hL
  exact hq
theorem dec_tuple {dx l : Addr} (X : K.In hp) (I : PySem.W.InstAt hp x (PySem.W.instObj C dx) C od) (e : PySem.W.subIn K (.ref C) (.type "tuple") = some false)
    {Q : Fin → Shared → Prop}
    (hq : Q (.done (.ret .notImplemented)) ⟨hp, g, d, tk, os⟩) : wpAny M A (Builtin.«tuple.__eq__» ⟨[.ref l, .ref x], []⟩) Q E ⟨hp, g, d, tk, os⟩ := by
  have hL := look_in (M := M) X I e
  wp_walk using PySem.W.Looks.at hL
  exact hq
theorem dec_dict {dx l : Addr} (X : K.In hp) (I : PySem.W.InstAt hp x (PySem.W.instObj C dx) C od) (e : PySem.W.subIn K (.ref C) (.type "dict") = some false)
    {Q : Fin → Shared → Prop}
    (hq : Q (.done (.ret .notImplemented)) ⟨hp, g, d, tk, os⟩) : wpAny M A (Builtin.«dict.__eq__» ⟨[.ref l, .ref x], []⟩) Q E ⟨hp, g, d, tk, os⟩ := by
  have hL := look_in (M := M) X I e
  wp_walk using PySem.W.Looks.at hL
  exact hq
end

/-- the class at C has an own __eq__ that keeps sp, and is none of the built-in ones -/
structure OwnE (P : Program) (w : World) (K : PySem.W.Frag) (mg : Str → Option Value) (base : Heap) (n : Nat) (C : Addr) (sp : Sp) : Prop where
  fn : ∃ f fd ps, PySem.W.findIn K (.ref C) "__eq__" = some (some (.ref f)) ∧ PySem.W.isFn K (.ref f) = true ∧
    Binds K fd ps [] ∧ FnG P w K mg base CX0 n f fd ps sp
  l : PySem.W.subIn K (.ref C) (.type "list") = some false
  t : PySem.W.subIn K (.ref C) (.type "tuple") = some false
  d : PySem.W.subIn K (.ref C) (.type "dict") = some false
  i : PySem.W.subIn K (.ref C) (.type "int") = some false
  b : PySem.W.subIn K (.ref C) (.type "bool") = some false
  s : PySem.W.subIn K (.ref C) (.type "str") = some false
  n : PySem.W.subIn K (.ref C) (.type "NoneType") = some false
def tyD : PyData → String
  | .none => "NoneType" | .bool _ => "bool" | .int _ => "int" | .str _ => "str" | .list _ => "list" | .tuple _ => "tuple" | .dict _ => "dict"
section
variable {X : Cx} {C : Addr} {n : Nat} {sp : Sp} {pins : List (Addr × Obj)} {σ : L2.St} {H : Hp} {s : Shared}
theorem OwnE.sub {P : Program} {w : World} {K : PySem.W.Frag} {mg : Str → Option Value} {base : Heap} (D : OwnE P w K mg base n C sp) :
    ∀ d : PyData, PySem.W.subIn K (.ref C) (.type (tyD d)) = some false
  | .none => D.n | .bool _ => D.b | .int _ => D.i | .str _ => D.s | .list _ => D.l | .tuple _ => D.t | .dict _ => D.d
theorem Dx.typ (I : Inv X pins σ H s) {v : V} {d : PyData} {u : Value} (h : Dx X.K H v d) (r : RelV v u) : s.TypeIs u (tyD d) := by
  cases h with
  | non => cases r; rfl
  | bl b => cases r; rfl
  | int i => obtain ⟨t, rfl⟩ := r; rfl
  | str x => obtain ⟨t, rfl⟩ := r; rfl
  | lst h _ =>
    cases r
    obtain ⟨its, rv, pl, hz⟩ := I.list h
    exact pl.isList.typeIs
  | tup h _ =>
    cases r
    obtain ⟨its, rv, ⟨o, h1, h2, _⟩, hz⟩ := I.tuple h
    exact ⟨o, h1, h2⟩
  | dic h _ =>
    cases r
    obtain ⟨_, _, vs, _, p⟩ := dk_rd I.hok h
    exact p.typeIs
theorem looks_ty {M : Model} {u : Value} {T : String} (t : s.TypeIs u T) : PySem.W.Looks M s.heap (typeOf u) (.type T) := by
  cases u with
  | ref a =>
    obtain ⟨o, ho, hc⟩ := t
    exact hc ▸ (PySem.W.Looks.ld ho).andThen .now
  | _ => exact PySem.W.Looks.of_pure t
/-- x == y, y an instance with its own ==, x of a built-in kind: y is asked -/
def rFlip (K : PySem.W.Frag) (C : Addr) (sp : Sp) : R2 := fun x y H Q => ∃ a dx fs d, y = .ref a ∧ H a = some (.ins C dx fs) ∧ Dx K H x d ∧
  sp [y, x] H (fun z H' => ∃ b, z = .bl b ∧ Q z H') E0
theorem op_flip (D : OwnE X.prog X.w X.K X.mg X.base n C sp) (hr : Room n X.A) (hG : Gd X.A) : OpR X (compareOp .Eq) (rFlip X.K C sp) := by
  intro pins s σ H x y v u Q I rx ry h
  obtain ⟨a, dx, fs, d, rfl, ha, hd, q⟩ := h
  cases ry
  obtain ⟨f, fd, ps, hs, hf, hb, F0⟩ := D.fn
  obtain ⟨mA, O, _⟩ := ins_get I.hok ha
  obtain ⟨od, J, _⟩ := O.look
  have tv := Dx.typ I hd rx
  have lv := looks_ty (M := model X.prog X.w) tv
  have dec : ∃ id, Slot (tyD d) "__eq__" id ∧ ∀ {Q' : Value → Shared → Prop}, Q' .notImplemented s →
      wpAny (model X.prog X.w) X.A (call (.builtin id) [v, .ref a]) Q' X.xe s := by
    obtain ⟨hp, g, dr, tk, os⟩ := s
    cases hd with
    | non => cases rx; exact ⟨_, F.slot_NoneType_eq, fun hq => wpAny_call_entry F.slot_NoneType_eq tv F.entry_NoneType_eq (dec_none ⟨_, rfl, hq⟩) (F.args_NoneType_eq_2 _ _)⟩
    | bl b => cases rx; exact ⟨_, F.slot_bool_eq, fun hq => wpAny_call_entry F.slot_bool_eq tv F.entry_int_eq (dec_bool I.kIn J ⟨_, rfl, hq⟩) (F.args_int_eq_2 _ _)⟩
    | int i => obtain ⟨t, rfl⟩ := rx; exact ⟨_, F.slot_int_eq, fun hq => wpAny_call_entry F.slot_int_eq tv F.entry_int_eq (dec_int I.kIn J ⟨_, rfl, hq⟩) (F.args_int_eq_2 _ _)⟩
    | str z => obtain ⟨t, rfl⟩ := rx; exact ⟨_, F.slot_str_eq, fun hq => wpAny_call_entry F.slot_str_eq tv F.entry_str_eq (dec_str I.kIn J ⟨_, rfl, hq⟩) (F.args_str_eq_2 _ _)⟩
    | lst hl _ =>
      cases rx
      obtain ⟨its, rv, ⟨o, n, ho, hc, _, hdt⟩, _⟩ := I.list hl
      exact ⟨_, F.slot_list_eq, fun hq => wpAny_call_entry F.slot_list_eq tv F.entry_list_eq (dec_list I.kIn J D.l ⟨_, rfl, hq⟩) (F.args_list_eq_2 _ _)⟩
    | tup hl _ => cases rx; exact ⟨_, F.slot_tuple_eq, fun hq => wpAny_call_entry F.slot_tuple_eq tv F.entry_tuple_eq (dec_tuple I.kIn J D.t ⟨_, rfl, hq⟩) (F.args_tuple_eq_2 _ _)⟩
    | dic hl _ => cases rx; exact ⟨_, F.slot_dict_eq, fun hq => wpAny_call_entry F.slot_dict_eq tv F.entry_dict_eq (dec_dict I.kIn J D.d ⟨_, rfl, hq⟩) (F.args_dict_eq_2 _ _)⟩
  obtain ⟨id, sl, dec⟩ := dec
  have two : wpAny (model X.prog X.w) X.A (tryCompare (.ref a) "__eq__" v) (fun r s' => ∃ b, r = some (.bool b) ∧ EP X pins σ Q (.bool b) s') X.xe s := by
    unfold tryCompare
    have hl : ([Value.ref a] ++ [v]).length = ps.length := by
      have := F0.len _ _ _ _ q
      exact this
    refine wpAny_bind (PySem.W.ifBound_K I.kIn J hs hf (wpAny_call (codeAny_mono (F0.run X.A X.stack s H ⟨[.ref a, v], []⟩ [.ref a, v] [.ref a, x] _ _ hr hG I.env0
      (by have := hb s [.ref a, v] I.kIn (by simpa using hl); simpa using this) (.cons rfl (.cons rx .nil)) q) fun rr s' hq => ?_)))
    match rr, hq with
    | .error er, hq => exact False.elim hq
    | .ok (.ret z), hq =>
      obtain ⟨y, H', I2, ry, ⟨b, ey, qq⟩⟩ := I.after hq
      subst ey
      cases ry
      exact wpAny_pure ⟨b, rfl, .bl b, H', I2, rfl, qq⟩
    | .ok .next, hq => exact False.elim hq
    | .ok .brk, hq => exact False.elim hq
    | .ok .cont, hq => exact False.elim hq
  show wpAny _ _ (richCompare .Eq v (.ref a)) _ _ _
  simp only [richCompare, cmpInfo_Eq, tv.oneThing_none]
  refine wpAny_holding (wpAny_bind (wpAny_cRoomFor hr.units0 ?_))
  refine wpAny_bind (lv.here (wpAny_bind (J.type.here ?_)))
  split
  · refine wpAny_bind ((PySem.W.looks_subIn I.kIn (D.sub d)).here ?_)
    simp only [Bool.false_eq_true, if_false, Bool.not_false, if_true]
    refine wpAny_bind (m := tryCompare v _ (.ref a)) (wpAny_tryCompare_declines tv sl (dec ⟨rfl, ?_⟩))
    refine wpAny_bind (m := tryCompare (.ref a) _ v) (thn two fun r s' z => ?_)
    obtain ⟨b, rfl, z⟩ := z
    exact wpAny_pure z
  · rename_i z
    exact absurd (by simp) z

/-- x == y, x an instance with its own ==, y of a built-in kind or of the same class -/
def rOwnL (K : PySem.W.Frag) (C : Addr) (sp : Sp) : R2 := fun x y H Q => ∃ a dx fs, x = .ref a ∧ H a = some (.ins C dx fs) ∧
  ((∃ d, Dx K H y d ∧ PySem.W.subIn K (.type (tyD d)) (.ref C) = some false) ∨ ∃ b dy gs, y = .ref b ∧ H b = some (.ins C dy gs)) ∧
  sp [x, y] H (fun z H' => ∃ b, z = .bl b ∧ Q z H') E0
theorem op_ownL (D : OwnE X.prog X.w X.K X.mg X.base n C sp) (hr : Room n X.A) (hG : Gd X.A) : OpR X (compareOp .Eq) (rOwnL X.K C sp) := by
  intro pins s σ H x y v u Q I rx ry h
  obtain ⟨a, dx, fs, rfl, ha, hy, q⟩ := h
  cases rx
  obtain ⟨f, fd, ps, hs, hf, hb, F0⟩ := D.fn
  obtain ⟨mA, O, _⟩ := ins_get I.hok ha
  obtain ⟨od, J, _⟩ := O.look
  obtain ⟨m, hF⟩ := I.fr
  have ty : ∃ tb, PySem.W.Looks (model X.prog X.w) s.heap (typeOf u) tb ∧ PySem.W.notFirst X.K C tb = true := by
    rcases hy with ⟨d, hd, e⟩ | ⟨b, dy, gs, rfl, hb'⟩
    · exact ⟨_, looks_ty (Dx.typ I hd ry), by unfold PySem.W.notFirst; rw [e]; simp⟩
    · cases ry
      obtain ⟨mB, O', _⟩ := ins_get I.hok hb'
      obtain ⟨od', J', _⟩ := O'.look
      exact ⟨_, J'.type, by simp [PySem.W.notFirst]⟩
  obtain ⟨tb, t1, t2⟩ := ty
  have hl : ([Value.ref a] ++ [u]).length = ps.length := F0.len _ _ _ _ q
  refine PySem.W.cmp_K (op := .Eq) (tb := tb) hr.units0 hF I.ok.mod.kin J t1 t2 hs hf ?_
  refine wpAny_call (codeAny_mono (F0.run X.A X.stack s H ⟨[.ref a, u], []⟩ [.ref a, u] [.ref a, y] _ _ hr hG I.env0
      (by have := hb s [.ref a, u] I.kIn (by simpa using hl); simpa using this) (.cons rfl (.cons ry .nil)) q) fun rr s' hq => ?_)
  match rr, hq with
  | .error er, hq => exact False.elim hq
  | .ok (.ret z), hq =>
    obtain ⟨y, H', I2, ry, ⟨b, ey, qq⟩⟩ := I.after hq
    subst ey
    cases ry
    exact ⟨.bl b, H', I2, rfl, qq⟩
  | .ok .next, hq => exact False.elim hq
  | .ok .brk, hq => exact False.elim hq
  | .ok .cont, hq => exact False.elim hq
end
end Rm

set_option maxRecDepth 100000
set_option maxHeartbeats 4000000
namespace Rm
open PySem PySem.Spec L2
open PyProof.Rows hiding St

theorem Dx.tyx {K : PySem.W.Frag} {H : Hp} {v : V} {d : PyData} (h : Dx K H v d) : TyX K H v (.type (tyD d)) := by
  cases h with
  | non => exact .base .non
  | bl b => exact .base (.bl b)
  | int i => exact .base (.int i)
  | str x => exact .base (.str x)
  | lst h _ =>
    rcases h with (h | ⟨o, h⟩) | ⟨o, its, n, h, c, _⟩
    · exact .base (.lst h)
    · exact .base (.frz h)
    · exact .kList h c
  | tup h _ =>
    rcases h with (h | ⟨o, h⟩) | ⟨o, its, n, h, c, _⟩
    · exact .base (.tup h)
    · exact .fTuple h
    · exact .kTuple h c
  | dic h _ =>
    rcases h with h | ⟨o, h⟩
    · exact .base (.dK h)
    · exact .fDict h
def isS : PyData → Bool
  | .str _ => true
  | _ => false
theorem kit_str {K : PySem.W.Frag} : ∀ d : PyData, PySem.W.kitOne K (.type (tyD d)) (.type "str") = some (isS d)
  | .none => kit_ty (a := "NoneType") (r := false) (by decide +kernel) | .bool _ => kit_ty (a := "bool") (r := false) (by decide +kernel)
  | .int _ => kit_ty (a := "int") (r := false) (by decide +kernel) | .str _ => kit_ty (a := "str") (r := true) (by decide +kernel)
  | .list _ => kit_ty (a := "list") (r := false) (by decide +kernel) | .tuple _ => kit_ty (a := "tuple") (r := false) (by decide +kernel)
  | .dict _ => kit_ty (a := "dict") (r := false) (by decide +kernel)
/-- isinstance(x, str) for data -/
theorem isi_str {K : PySem.W.Frag} {H : Hp} {v : V} {d : PyData} {Q : VK} (h : Dx K H v d) (q : Q (.bl (isS d)) H) :
    rIsi K [v, .ty "str"] H Q := ⟨v, .ty "str", _, _, _, rfl, .ty _, h.tyx, kit_str d, q⟩

/-! ### the four words -/
def rkS (z : Str) : Option Int :=
  if z = "hold" then some 1 else if z = "keep" then some 2 else if z = "change" then some 3 else if z = "replace" then some 4 else none
def rkD : PyData → Option Int
  | .str z => rkS z
  | _ => none
structure Rk (w : World) (K : PySem.W.Frag) (mg : Str → Option Value) (R : Addr) : Prop where
  g : mg "RANKS" = some (.ref R)
  kd : ∃ es n, KDict K w R es n
  yes : ∀ z i, rkS z = some i → ∃ t, PySem.W.nsIn K R z = some (some (.int i t))
  no : ∀ z, rkS z = none → PySem.W.nsIn K R z = some none
theorem rk_of {w : World} {K : PySem.W.Frag} {mg : Str → Option Value} {R : Addr} {t1 t2 t3 t4 u1 u2 u3 u4 : Tok} {n : Nat}
    (g : mg "RANKS" = some (.ref R)) (low : (R == sysModules) = false)
    (h : K.lookup R = some ⟨.type "dict", none, .dict #[⟨PyData.keyHash w.params "hold", .str "hold" t1, .int 1 u1⟩,
      ⟨PyData.keyHash w.params "keep", .str "keep" t2, .int 2 u2⟩, ⟨PyData.keyHash w.params "change", .str "change" t3, .int 3 u3⟩,
      ⟨PyData.keyHash w.params "replace", .str "replace" t4, .int 4 u4⟩] n, #[]⟩) : Rk w K mg R := by
  refine ⟨g, ⟨_, _, h, ⟨⟨_, _, rfl, rfl⟩, ⟨_, _, rfl, rfl⟩, ⟨_, _, rfl, rfl⟩, ⟨_, _, rfl, rfl⟩, True.intro⟩, low⟩, fun z i e => ?_, fun z e => ?_⟩
  · unfold rkS at e
    unfold PySem.W.nsIn
    rw [h]
    simp only [List.find?_cons, Value.isStr, List.find?_nil]
    split at e
    · rename_i q; subst q; cases e; exact ⟨u1, by simp⟩
    split at e
    · rename_i q0 q; subst q; cases e; exact ⟨u2, by simp [show (("hold" : Str) == "keep") = false by decide +kernel]⟩
    split at e
    · rename_i q0 q1 q; subst q; cases e; exact ⟨u3, by simp [show (("hold" : Str) == "change") = false by decide +kernel, show (("keep" : Str) == "change") = false by decide +kernel]⟩
    split at e
    · rename_i q0 q1 q2 q; subst q; cases e; exact ⟨u4, by simp [show (("hold" : Str) == "replace") = false by decide +kernel, show (("keep" : Str) == "replace") = false by decide +kernel, show (("change" : Str) == "replace") = false by decide +kernel]⟩
    · cases e
  · unfold rkS at e
    unfold PySem.W.nsIn
    rw [h]
    simp only [List.find?_cons, Value.isStr, List.find?_nil]
    split at e
    · cases e
    split at e
    · cases e
    split at e
    · cases e
    split at e
    · cases e
    rename_i q0 q1 q2 q3
    have f : ∀ {a b : Str}, ¬ a = b → (a == b) = false := fun h => by simpa using h
    simp [f q0, f q1, f q2, f q3, f (fun e => q0 e.symm), f (fun e => q1 e.symm), f (fun e => q2 e.symm), f (fun e => q3 e.symm), DictEntry.refKey]

/-! ### a class of the program -/
def allTy (l : List Value) : Bool := l.all fun v => match v with
  | .type _ => true
  | _ => false
theorem allTy_no {C : Addr} : ∀ {l : List Value}, allTy l = true → l.contains (.ref C) = false
  | [], _ => rfl
  | v :: r, h => by
    unfold allTy at h
    rw [List.all_cons, Bool.and_eq_true] at h
    rw [List.contains_cons, allTy_no (l := r) h.2]
    cases v with
    | type _ => rfl
    | _ => exact absurd h.1 (by simp)
theorem sub_own {K : PySem.W.Frag} {C : Addr} {T : String} (h : (fastBuiltinMro T).map allTy = some true) : PySem.W.subIn K (.type T) (.ref C) = some false := by
  unfold PySem.W.subIn
  dsimp only
  obtain ⟨l, e, q⟩ := Option.map_eq_some_iff.mp h
  rw [e]
  exact congrArg some (allTy_no q)
theorem sub_ownD {K : PySem.W.Frag} {C : Addr} : ∀ d : PyData, PySem.W.subIn K (.type (tyD d)) (.ref C) = some false
  | .none => sub_own (T := "NoneType") (by decide +kernel) | .bool _ => sub_own (T := "bool") (by decide +kernel)
  | .int _ => sub_own (T := "int") (by decide +kernel) | .str _ => sub_own (T := "str") (by decide +kernel)
  | .list _ => sub_own (T := "list") (by decide +kernel) | .tuple _ => sub_own (T := "tuple") (by decide +kernel)
  | .dict _ => sub_own (T := "dict") (by decide +kernel)
structure OwnC (K : PySem.W.Frag) (C : Addr) : Prop where
  cls : Cls K C
  ty : PySem.W.typeIn K (.ref C) = some (.type "type")
  ha : PySem.W.findIn K (.ref C) "__class__" = some (some (.builtin "object.__class__"))
  hn : PySem.W.specialIn K (.builtin "object.__class__") "__get__" = some (some (.builtin "getset_descriptor.__get__"))
  htk : PySem.W.takesIn K (.builtin "object.__class__") = some true
  hm : PySem.W.mroIn K C (.type "object") = some true
section
variable {K : PySem.W.Frag} {H : Hp} {C a b dx dy : Addr} {fs gs : List (Str × V)} {x v : V} {d : PyData} {Q : VK}
theorem OwnC.isi_not (c : OwnC K C) (h : Dx K H v d) (q : Q (.bl false) H) : rIsi K [v, .ref C] H Q := by
  refine ⟨v, .ref C, _, _, false, rfl, .own C, h.tyx, ?_, q⟩
  unfold PySem.W.kitOne
  rw [if_neg (by simp)]
  unfold PySem.W.kitCls
  have e : (PySem.W.clsIn K C).isSome = true := by
    obtain ⟨cd, z, _⟩ := PySem.W.any_some c.cls.hd
    rw [z]; rfl
  dsimp only
  rw [if_pos (by rw [e, c.ty]; simp)]
  exact sub_ownD d
theorem OwnC.isi_so (c : OwnC K C) (h : H b = some (.ins C dy gs)) (q : Q (.bl true) H) : rIsi K [.ref b, .ref C] H Q := by
  refine ⟨.ref b, .ref C, _, _, true, rfl, .own C, .base (.ins h c.cls c.ha c.hn c.htk c.hm), ?_, q⟩
  unfold PySem.W.kitOne
  rw [if_pos (by simp)]
end

/-! ### what the modes' defs keep -/
def mdO (C dx : Addr) (z : Str) : HO := .ins C dx [("_word", .str z)]
def spIs (K : PySem.W.Frag) : Sp := fun vs H Q _ => ∃ x d, vs = [x] ∧ Dx K H x d ∧ Q (.bl (rkD d).isSome) H
def spRank : Sp := fun vs H Q _ => ∃ z i, vs = [.str z] ∧ rkS z = some i ∧ Q (.int i) H
/-- a mode is made of any value -/
def spModeX (K : PySem.W.Frag) (C BM : Addr) : Sp := fun vs H Q E => ∃ a dx x d, vs = [.ref a, x] ∧ H a = some (.ins C dx []) ∧ Dx K H x d ∧
  (rkD d = none → ∀ e, H e = none → E (.ref BM) (some e) (upd H e (.xd [("value", x)]))) ∧
  (∀ z i, d = .str z → rkS z = some i → Q .non (upd H a (mdO C dx z)))
/-- a mode is made of one of the words -/
def spModeQ (K : PySem.W.Frag) (C : Addr) : Sp := fun vs H Q _ => ∃ a dx z i, vs = [.ref a, .str z] ∧ H a = some (.ins C dx []) ∧ rkS z = some i ∧
  Q .non (upd H a (mdO C dx z))
def spWord (C : Addr) : Sp := fun vs H Q _ => ∃ a dx z, vs = [.ref a] ∧ H a = some (mdO C dx z) ∧ Q (.str z) H
def spRk (C : Addr) : Sp := fun vs H Q _ => ∃ a dx z i, vs = [.ref a] ∧ H a = some (mdO C dx z) ∧ rkS z = some i ∧ Q (.int i) H
def spEqM (K : PySem.W.Frag) (C : Addr) : Sp := fun vs H Q _ => ∃ a dx z y, vs = [.ref a, y] ∧ H a = some (mdO C dx z) ∧
  ((∃ d, Dx K H y d ∧ Q (.bl false) H) ∨ ∃ b dy z', y = .ref b ∧ H b = some (mdO C dy z') ∧ Q (.bl (decide (z = z'))) H)

/-! ### values that are small -/
structure Sv (d : PyData) : Prop where
  sh : d.showable = true
  lv : d.leavesShort 100 = true
  wt : d.weight ≤ 1000
  dp : d.depth ≤ 10
theorem Sv.sm {d : PyData} (h : Sv d) : Sm d := ⟨h.sh, h.lv, by have := h.wt; omega, by have := h.dp; omega⟩
def svB (d : PyData) : Bool := d.showable && (d.leavesShort 100 && (decide (d.weight ≤ 1000) && decide (d.depth ≤ 10)))
theorem Sv.of {d : PyData} (h : svB d = true) : Sv d := by
  unfold svB at h
  simp only [Bool.and_eq_true, decide_eq_true_eq] at h
  exact ⟨h.1, h.2.1, h.2.2.1, h.2.2.2⟩
theorem Sv.all {ds : List PyData} (h : ds.all svB = true) {i : Nat} {d : PyData} (e : ds[i]? = some d) : Sv d :=
  Sv.of (List.all_eq_true.mp h d (List.mem_of_getElem? e))
/-! ### drawn values -/
/-- all but the tape at t is as it was -/
structure Nxt (t : Addr) (H H' : Hp) : Prop where
  keep : ∀ b u, H b = some u → b ≠ t → H' b = some u
  tape : ∃ o, H' t = some o ∧ IsTape o
def spAny (K : PySem.W.Frag) : Sp := fun vs H Q _ => ∃ t o, vs = [.ref t] ∧ H t = some o ∧ IsTape o ∧
  ∀ v d H', Dx K (del H' t) v d → Sv d → Nxt t H H' → Q v H'
theorem del_upd {H : Hp} {t : Addr} {o : HO} : del (upd H t o) t = del H t := by
  funext b
  by_cases h : b = t
  · rw [h, del_same, del_same]
  · rw [del_ne h, del_ne h, upd_ne h]
/-- a new thing beside the tape -/
structure New (t p : Addr) (o ot : HO) (H : Hp) : Prop where
  th : upd H p o t = some ot
  s : Same H (upd H p o)
  d : Same (del H t) (del (upd H p o) t)
  a : del (upd H p o) t p = some o
theorem new_at {t p : Addr} {H : Hp} (o : HO) {ot : HO} (hp : H p = none) (ht : H t = some ot) : New t p o ot H := by
  have ne : p ≠ t := fun e => by rw [e, ht] at hp; cases hp
  have nb : ∀ {b : Addr} {u : HO}, H b = some u → b ≠ p := fun h e => by rw [e, hp] at h; cases h
  refine ⟨by rw [upd_ne (Ne.symm ne)]; exact ht, fun b u h => by rw [upd_ne (nb h)]; exact h, fun b u h => ?_, by rw [del_ne ne, upd_same]⟩
  by_cases e : b = t
  · rw [e, del_same] at h; cases h
  · rw [del_ne e] at h ⊢
    rw [upd_ne (nb h)]
    exact h
theorem Sm.of {d : PyData} (h : (d.showable && (d.leavesShort 100 && (decide (d.weight ≤ 100000) && decide (d.depth ≤ 50)))) = true) : Sm d := by
  simp only [Bool.and_eq_true, decide_eq_true_eq] at h
  exact ⟨h.1, h.2.1, h.2.2.1, h.2.2.2⟩
/-- what _law_made tells of a value -/
def madeD (d : PyData) : PyData := match rkD d with
  | some i => .list [.str "made", d, .int i]
  | none => .list [.str "bad", d]
def spMade (K : PySem.W.Frag) : Sp := fun vs H Q _ => ∃ x d, vs = [x] ∧ Dx K H x d ∧
  ∀ v H', Same H H' → Dx K H' v (madeD d) → Q v H'
theorem same_new {H : Hp} {p : Addr} {o : HO} (n : H p = none) : Same H (upd H p o) := fun b u h => by
  rw [upd_ne (fun e => by rw [e, n] at h; cases h)]
  exact h
end Rm

set_option maxRecDepth 100000
set_option maxHeartbeats 4000000
namespace Rm
open PySem PySem.Spec L2
open PyProof.Rows hiding St
open SeqAt MeetsSeq

/-! ### != of two instances of a class with its own == -/
section
variable {M : Model} {A : Around} {E : Value → Shared → Prop} {s : Shared} {K : PySem.W.Frag} {x C : Addr} {ox : Obj} {od : Option Obj}
theorem bound_ne {args : List Value} {Q : Option Value → Shared → Prop} (X : K.In s.heap) (I : PySem.W.InstAt s.heap x ox C od)
    (hs : PySem.W.findIn K (.ref C) "__ne__" = some (some (.builtin "object.__ne__")))
    (h : wpAny M A (call (.builtin "object.__ne__") (.ref x :: args)) (fun v => Q (some v)) E s) : wpAny M A (callSpecialIfBound? (.ref x) "__ne__" args) Q E s := by
  simp only [callSpecialIfBound?, bindSpecialIfBound?]
  refine wpAny_holding (wpAny_bind (wpAny_bind (wpAny_bind (I.type.here ((PySem.W.looks_findIn X hs).here ?_)))))
  refine wpAny_bind (wpAny_askSetting (wpAny_ite ?_))
  have fin : wpAny M A (call (.builtin "object.__ne__") ([.ref x] ++ args) >>= fun v => pure (some v)) Q E s :=
    wpAny_bind (wpAny_mono h (fun v s' h' => wpAny_pure h') fun _ _ h' => h')
  split
  · exact wpAny_bind (wpAny_of_eq (F.cmp_object.ne.bind _) (wpAny_pure (by exact fin)))
  · exact wpAny_tryCatch (wpAny_bind (wpAny_of_eq (F.cmp_object.ne.bind _) (wpAny_pure (by exact fin))))
theorem entry_ne {y : Value} {Q : Fin → Shared → Prop} (hu : A.units < cLine)
    (h : wpAny M A (callSpecialIfBound? (.ref x) "__eq__" [y]) (fun r s' => ∃ b, r = some (.bool b) ∧ Q (.done (.ret (.bool (!b)))) s') E s) :
    wpAny M A (Builtin.«object.__ne__» ⟨[.ref x, y], []⟩) Q E s := by
  unfold Builtin.«object.__ne__»
  repeat (first
    | with_reducible refine wpAny_cRoomFor hu ?_
    | (refine wpAny_bind (m := callSpecialIfBound? (.ref x) (Str.ofString "__eq__") [y]) (wpAny_mono h (fun r s' hr => by
          obtain ⟨b, rfl, hq⟩ := hr
          repeat (first | exact hq | exact wpAny_pure hq | exact wpAny_truthy_bool hq | (refine wpAny_bind (m := truthy (.bool _)) (wpAny_truthy_bool ?_)) | wp_step)) fun _ _ e => e))
    | wp_step)
end
def rOwnNe (C : Addr) (sp : Sp) : R2 := fun x y H Q => ∃ a dx fs b dy gs, x = .ref a ∧ H a = some (.ins C dx fs) ∧ y = .ref b ∧ H b = some (.ins C dy gs) ∧
  sp [x, y] H (fun z H' => ∃ c, z = .bl c ∧ Q (.bl (!c)) H') E0
section
variable {X : Cx} {C : Addr} {n : Nat} {sp : Sp}
theorem op_ownNe (D : OwnE X.prog X.w X.K X.mg X.base n C sp) (hm : PySem.W.mroIn X.K C (.type "object") = some true)
    (hne : PySem.W.findIn X.K (.ref C) "__ne__" = some (some (.builtin "object.__ne__"))) (hr : Room (n + 1) X.A) (hG : Gd X.A)
    (h1 : X.A.units + 1 < cLine) : OpR X (compareOp .NotEq) (rOwnNe C sp) := by
  intro pins s σ H x y v u Q I rx ry h
  obtain ⟨a, dx, fs, b, dy, gs, rfl, ha, rfl, hb', q⟩ := h
  cases rx
  cases ry
  obtain ⟨f, fd, ps, hs, hf, hb, F0⟩ := D.fn
  obtain ⟨mA, O, _⟩ := ins_get I.hok ha
  obtain ⟨od, J, _⟩ := O.look
  obtain ⟨mB, O', _⟩ := ins_get I.hok hb'
  obtain ⟨od', J', _⟩ := O'.look
  have hl : ([Value.ref a] ++ [Value.ref b]).length = ps.length := F0.len _ _ _ _ q
  have two : wpAny (model X.prog X.w) X.A (tryCompare (.ref a) "__ne__" (.ref b)) (fun r s' => ∃ c, r = some (.bool c) ∧ EP X pins σ Q (.bool c) s') X.xe s := by
    unfold tryCompare
    refine wpAny_bind (bound_ne I.kIn J hne (wpAny_call (codeAny_call_builtin F.cmp_object.ne.plain F.cmpEntry_ne
      (PySem.W.check_slot F.cmpKind_ne F.cmpSplit_ne (J.type.andThen (PySem.W.looks_mroIn I.kIn hm)) (F.cmpArgs_ne _ _) ?_))))
    refine entry_ne (A := X.A.in1) h1 (PySem.W.ifBound_K I.kIn J hs hf (wpAny_call (codeAny_mono (F0.run X.A.in1 X.stack s H ⟨[.ref a, .ref b], []⟩ [.ref a, .ref b] [.ref a, .ref b] _ _ hr.in1 hG.in1 I.env0.in1
      (by have := hb s [.ref a, .ref b] I.kIn (by simpa using hl); simpa using this) (.cons rfl (.cons rfl .nil)) q) fun rr s' hq => ?_)))
    match rr, hq with
    | .error er, hq => exact False.elim hq
    | .ok (.ret z), hq =>
      obtain ⟨y, H', I2, ry, ⟨c, ey, qq⟩⟩ := I.after hq
      subst ey
      cases ry
      have fin : ∃ c', some (Value.bool !c) = some (.bool c') ∧ EP X pins σ Q (.bool c') s' := ⟨_, rfl, .bl (!c), H', I2, rfl, qq⟩
      first | exact ⟨c, rfl, wpAny_pure fin⟩ | exact ⟨c, rfl, _, rfl, wpAny_pure fin⟩ | exact ⟨c, rfl, rfl, wpAny_pure fin⟩ | exact ⟨c, rfl, wpAny_pure (wpAny_pure fin)⟩
    | .ok .next, hq => exact False.elim hq
    | .ok .brk, hq => exact False.elim hq
    | .ok .cont, hq => exact False.elim hq
  show wpAny _ _ (richCompare .NotEq (.ref a) (.ref b)) _ _ _
  simp only [richCompare, cmpInfo_NotEq, oneThing_ref]
  refine wpAny_holding (wpAny_bind (wpAny_cRoomFor hr.units0 ?_))
  refine wpAny_bind (J.type.here (wpAny_bind (J'.type.here ?_)))
  rw [show (Value.ref C != Value.ref C) = false from by simp]
  simp only [Bool.false_eq_true, if_false]
  refine wpAny_bind (wpAny_pure ?_)
  simp only [Bool.false_eq_true, if_false]
  refine wpAny_bind (thn two fun r s' z => ?_)
  obtain ⟨c, rfl, z⟩ := z
  exact wpAny_pure z
end

/-- the law's own promise: a script of at most 63 numbers -/
def spLaw (K : PySem.W.Frag) : Sp := fun vs H Q _ => ∃ (a : Addr) (ns : List Int), vs = [.ref a] ∧ SqL K H a (ns.map V.int) ∧ ns.length ≤ 63 ∧
  (∀ n ∈ ns, Builtin.Int.intBits n ≤ 1048576) ∧ ∀ H', Q (.bl true) H'
end Rm

set_option maxRecDepth 100000
set_option maxHeartbeats 4000000
namespace Rm
open PySem PySem.Spec L2
open PyProof.Rows hiding St

/-! ### blocks with a middle -/
theorem seq_mid {A B : TS} {D : Ends} {σ : L2.St} {H : Hp} (Mid : L2.St → Hp → Prop) (h2 : ∀ σ' H', Mid σ' H' → B D σ' H')
    (h1 : ∀ N : L2.St → Hp → Prop, (∀ σ' H', Mid σ' H' → N σ' H') → A { D with nx := N } σ H) : tSeq A B D σ H := h1 (B D) h2
theorem asg_mid {A B : TS} {D : Ends} {σ : L2.St} {H : Hp} {i : Nat} {v : V} (Mid : L2.St → Hp → Prop) (h2 : ∀ σ' H', Mid σ' H' → B D σ' H')
    (h1 : ∀ N : L2.St → Hp → Prop, (∀ σ' H', Mid σ' H' → N σ' H') → A { D with nx := N } (σ.set i (some v)) H) : gName i v σ H (tSeq A B D) := h1 (B D) h2
/-- a walk through the keys of a locked dict -/
theorem for_keys {d : Addr} {o : Obj} {kvs : List (Key × V)} {g : TG} {tb : TS} {D : Ends} {σ : L2.St} {H : Hp} (Pv : Nat → L2.St → Hp → Prop)
    (h0 : Pv 0 σ H) (hl : ∀ i σ H, i ≤ kvs.length → Pv i σ H → H d = some (.frz o (.dK kvs)))
    (hs : ∀ i k v σ H, kvs[i]? = some (k, v) → Pv i σ H → g (kV k) σ H fun σ2 H2 => tb { D with nx := Pv (i + 1), ct := Pv (i + 1), bk := D.nx } σ2 H2)
    (hd : ∀ σ H, Pv kvs.length σ H → D.nx σ H) :
    ∃ W : Nat → Nat → L2.St → Hp → Prop, (∃ m, W 0 m σ H) ∧ ∀ i m σ H, W i m σ H →
      ((Itk d o kvs).stop i H ∧ D.nx σ H) ∨ ((Itk d o kvs).go i H ∧ ∃ N : L2.St → Hp → Prop, (∀ σ' H', N σ' H' → ∃ m', m' < m ∧ W (i + 1) m' σ' H') ∧
        ∀ x H', (Itk d o kvs).yld i H x H' → g x σ H' fun σ2 H2 => tb { D with nx := N, ct := N, bk := D.nx } σ2 H2) := by
  refine ⟨fun i m σ H => m = kvs.length - i ∧ i ≤ kvs.length ∧ Pv i σ H, ⟨kvs.length, by simp, Nat.zero_le _, h0⟩, ?_⟩
  rintro i m σ H ⟨rfl, hi, p⟩
  have q := hl i σ H hi p
  by_cases hlt : i < kvs.length
  · refine .inr ⟨⟨q, hlt⟩, Pv (i + 1), fun σ' H' p' => ⟨kvs.length - (i + 1), by omega, rfl, hlt, p'⟩, fun x H' y => ?_⟩
    obtain ⟨rfl, k, v, e, rfl⟩ := y
    exact hs i k v σ _ e p
  · have e : i = kvs.length := by omega
    subst e
    exact .inl ⟨⟨q, Nat.le_refl _⟩, hd σ H p⟩

/-! ### heaps beside the tape -/
theorem same_del {H : Hp} {t : Addr} : Same (del H t) H := fun b u h => by
  by_cases e : b = t
  · rw [e, del_same] at h; cases h
  · rw [del_ne e] at h; exact h
theorem same_dels {H H' : Hp} {t : Addr} (s : Same H H') : Same (del H t) (del H' t) := fun b u h => by
  by_cases e : b = t
  · rw [e, del_same] at h; cases h
  · rw [del_ne e] at h ⊢
    exact s b u h
theorem Nxt.same {t : Addr} {H0 H H' : Hp} (n : Nxt t H H') (f : H0 t = none) (s : Same H0 H) : Same H0 H' := fun b u h =>
  n.keep b u (s b u h) fun e => by rw [e, f] at h; cases h
theorem same_tape {t : Addr} {H0 H : Hp} {o : HO} (f : H0 t = none) (s : Same H0 H) : Same H0 (upd H t o) := fun b u h => by
  rw [upd_ne (fun e => by rw [e, f] at h; cases h)]
  exact s b u h
theorem same_two {H : Hp} {x dx : Addr} {o o' : HO} (nd : H dx = none) (nx : H x = none) (ne : dx ≠ x) : Same H (upd (upd H dx o) x o') :=
  (same_new nd).trans (same_new (by rw [upd_ne (Ne.symm ne)]; exact nx))

/-! ### the ranks as the law has them -/
def rkKV : List (Key × V) := [(.inr "hold", .int 1), (.inr "keep", .int 2), (.inr "change", .int 3), (.inr "replace", .int 4)]
theorem mergeK_rk : mergeK [] [((.inr "hold" : Key), V.int 1), (.inr "keep", .int 2), (.inr "change", .int 3), (.inr "replace", .int 4)] = rkKV := by
  simp [mergeK, putK, rkKV, show ¬ (("hold" : Str) = "keep") by decide +kernel, show ¬ (("hold" : Str) = "change") by decide +kernel, show ¬ (("keep" : Str) = "change") by decide +kernel,
    show ¬ (("hold" : Str) = "replace") by decide +kernel, show ¬ (("keep" : Str) = "replace") by decide +kernel, show ¬ (("change" : Str) = "replace") by decide +kernel]
theorem valV_rk (z : Str) : valV rkKV (.inr z) = (rkS z).map V.int := by
  unfold rkKV rkS
  have f : ∀ {a : Str}, ¬ z = a → ¬ ((Sum.inr a : Key) = Sum.inr z) := fun h e => h (Sum.inr.inj e).symm
  by_cases h1 : z = "hold"
  · subst h1; rw [valV_pos rfl, if_pos rfl]; rfl
  rw [valV_neg (f h1), if_neg h1]
  by_cases h2 : z = "keep"
  · subst h2; rw [valV_pos rfl, if_pos rfl]; rfl
  rw [valV_neg (f h2), if_neg h2]
  by_cases h3 : z = "change"
  · subst h3; rw [valV_pos rfl, if_pos rfl]; rfl
  rw [valV_neg (f h3), if_neg h3]
  by_cases h4 : z = "replace"
  · subst h4; rw [valV_pos rfl, if_pos rfl]; rfl
  rw [valV_neg (f h4), if_neg h4, valV_nil]
  rfl
theorem rk_key {i : Nat} {k : Key} {v : V} (h : rkKV[i]? = some (k, v)) : ∃ z n, k = .inr z ∧ rkS z = some n := by
  match i, h with
  | 0, h => cases h; exact ⟨_, 1, rfl, rfl⟩
  | 1, h => cases h; exact ⟨_, 2, rfl, rfl⟩
  | 2, h => cases h; exact ⟨_, 3, rfl, rfl⟩
  | 3, h => cases h; exact ⟨_, 4, rfl, rfl⟩
  | n + 4, h => cases h
theorem tape_rk {o : HO} (h : IsTape o) : o ≠ .dK rkKV := by
  obtain ⟨dg, mx, rfl, _⟩ := h
  intro e
  have e1 := congrArg (fun u : HO => match u with | .dK l => l.length | _ => 0) e
  simp [tapeO, rkKV] at e1

/-! ### values that are small -/
theorem rk_word {d : PyData} {i : Int} (h : rkD d = some i) : (d, i) = (.str "hold", 1) ∨ (d, i) = (.str "keep", 2) ∨ (d, i) = (.str "change", 3) ∨ (d, i) = (.str "replace", 4) := by
  cases d with
  | str z =>
    have h : rkS z = some i := h
    unfold rkS at h
    split at h
    · rename_i e; subst e; cases h; exact .inl rfl
    split at h
    · rename_i e; subst e; cases h; exact .inr (.inl rfl)
    split at h
    · rename_i e; subst e; cases h; exact .inr (.inr (.inl rfl))
    split at h
    · rename_i e; subst e; cases h; exact .inr (.inr (.inr rfl))
    · cases h
  | _ => cases h
theorem Sv.made {d : PyData} (h : Sv d) : Sm (madeD d) := by
  unfold madeD
  cases e : rkD d with
  | some i =>
    rcases rk_word e with q | q | q | q <;> (cases q; exact Sm.of (by decide +kernel))
  | none =>
    obtain ⟨h1, h2, h3, h4⟩ := h
    have w3 : (PyData.str "bad").weight = 3 := by decide +kernel
    have d3 : (PyData.str "bad").depth = 0 := by decide +kernel
    have l3 : (PyData.str "bad").leavesShort 100 = true := by decide +kernel
    have s3 : (PyData.str "bad").showable = true := by decide +kernel
    refine ⟨by simp [PyData.showable, PyData.showableAll, h1], by simp [PyData.leavesShort, PyData.leavesShortAll, h2] at l3 ⊢; exact l3, ?_, ?_⟩
    · simp only [PyData.weight, PyData.weightAll] at w3 ⊢
      omega
    · simp only [PyData.depth, PyData.depthAll]
      omega

/-! ### texts cut and put together -/
def smC (z : Str) : Bool := z.cps.toList.all fun c => decide (c < 16 ^ 8)
theorem smC_cut {z : Str} {lo hi : Option Int} (h : smC z = true) : smC (cutS z lo hi) = true := by
  unfold smC at h ⊢
  rw [List.all_eq_true] at h ⊢
  intro c hc
  unfold cutS at hc
  simp only at hc
  exact h c (List.mem_of_mem_drop (List.mem_of_mem_take hc))
theorem smC_app {x y : Str} (h : smC x = true) (h' : smC y = true) : smC (x ++ y) = true := by
  unfold smC at h h' ⊢
  have e : (x ++ y).cps.toList = x.cps.toList ++ y.cps.toList := by
    show (x.cps ++ y.cps).toList = _
    simp
  rw [e, List.all_append, h, h']
  rfl
theorem len_app (x y : Str) : (x ++ y).length = x.length + y.length := by
  show (x.cps ++ y.cps).size = _
  simp [Str.length]
theorem Sv.str {z : Str} (h : smC z = true) (hl : z.length ≤ 1000) : Sv (.str z) :=
  ⟨by simp [PyData.showable], by simp only [PyData.leavesShort]; exact h, by simp only [PyData.weight]; exact hl, by simp [PyData.depth]⟩
theorem rk_str {i : Nat} {v : V} (h : (rkKV.map fun kv => kV kv.1)[i]? = some v) : ∃ z n, v = .str z ∧ rkS z = some n := by
  rw [List.getElem?_map] at h
  cases e : rkKV[i]? with
  | none => rw [e] at h; cases h
  | some p =>
    obtain ⟨k, x⟩ := p
    rw [e] at h
    obtain ⟨z, n, rfl, hz⟩ := rk_key e
    cases h
    exact ⟨z, n, rfl, hz⟩
theorem rk_len {z : Str} {n : Int} (h : rkS z = some n) : z.length ≤ 7 ∧ smC z = true := by
  rcases rk_word (d := .str z) h with q | q | q | q <;> (cases q; exact ⟨by decide +kernel, by decide +kernel⟩)
theorem sign_str {i : Nat} {v : V} (h : [V.str "", V.str " ", V.str "e", V.str "H"][i]? = some v) : ∃ z, v = .str z ∧ z.length ≤ 1 ∧ smC z = true := by
  match i, h with
  | 0, h => cases h; exact ⟨_, rfl, by decide +kernel, by decide +kernel⟩
  | 1, h => cases h; exact ⟨_, rfl, by decide +kernel, by decide +kernel⟩
  | 2, h => cases h; exact ⟨_, rfl, by decide +kernel, by decide +kernel⟩
  | 3, h => cases h; exact ⟨_, rfl, by decide +kernel, by decide +kernel⟩
  | n + 4, h => cases h

/-! ### two modes made and compared -/
section
variable {K : PySem.W.Frag} {CM : Addr} {σ : L2.St} {H : Hp} {z z' : Str} {n n' : Int} {i j : Nat} {Q : Bool → Hp → Prop}
theorem pair_eq (hi : σ[i]? = some (some (.str z))) (hj : σ[j]? = some (some (.str z'))) (hz : rkS z = some n) (hz' : rkS z' = some n')
    (q : ∀ H3, Same H H3 → Q (decide (z = z')) H3) :
    tTest (tOp (rOwnL K CM (spEqM K CM)) (tMake CM (spModeQ K CM) [] E0 (tCons (tVar i) tNil)) (tMake CM (spModeQ K CM) [] E0 (tCons (tVar j) tNil))) σ H Q := by
  refine ⟨_, hi, fun x dx nx nd ne => ⟨x, dx, z, n, rfl, upd_same, hz, rfl, ?_⟩⟩
  rw [upd_upd]
  have S1 := same_two (o := .own x) (o' := mdO CM dx z) nd nx ne
  refine ⟨_, hj, fun x2 dx2 nx2 nd2 ne2 => ⟨x2, dx2, z', n', rfl, upd_same, hz', rfl, ?_⟩⟩
  rw [upd_upd]
  have S2 := same_two (o := .own x2) (o' := mdO CM dx2 z') nd2 nx2 ne2
  have h1 := S2 _ _ (upd_same (H := upd H dx (.own x)) (a := x) (o := mdO CM dx z))
  exact ⟨x, dx, _, rfl, h1, .inr ⟨x2, dx2, _, rfl, upd_same⟩, x, dx, z, .ref x2, rfl, h1, .inr ⟨x2, dx2, z', rfl, upd_same, _, rfl, _, rfl, q _ (S1.trans S2)⟩⟩
theorem pair_ne (hi : σ[i]? = some (some (.str z))) (hj : σ[j]? = some (some (.str z'))) (hz : rkS z = some n) (hz' : rkS z' = some n')
    (q : ∀ H3, Same H H3 → Q (!decide (z = z')) H3) :
    tTest (tOp (rOwnNe CM (spEqM K CM)) (tMake CM (spModeQ K CM) [] E0 (tCons (tVar i) tNil)) (tMake CM (spModeQ K CM) [] E0 (tCons (tVar j) tNil))) σ H Q := by
  refine ⟨_, hi, fun x dx nx nd ne => ⟨x, dx, z, n, rfl, upd_same, hz, rfl, ?_⟩⟩
  rw [upd_upd]
  have S1 := same_two (o := .own x) (o' := mdO CM dx z) nd nx ne
  refine ⟨_, hj, fun x2 dx2 nx2 nd2 ne2 => ⟨x2, dx2, z', n', rfl, upd_same, hz', rfl, ?_⟩⟩
  rw [upd_upd]
  have S2 := same_two (o := .own x2) (o' := mdO CM dx2 z') nd2 nx2 ne2
  have h1 := S2 _ _ (upd_same (H := upd H dx (.own x)) (a := x) (o := mdO CM dx z))
  exact ⟨x, dx, _, x2, dx2, _, rfl, h1, rfl, upd_same, x, dx, z, .ref x2, rfl, h1, .inr ⟨x2, dx2, z', rfl, upd_same, _, rfl, _, rfl, q _ (S1.trans S2)⟩⟩
end
/-- the words of the law's dict -/
def rkV : List V := rkKV.map fun kv => kV kv.1
theorem take_yes {p : V → Bool} {i : Nat} {x : V} (e : rkV[i]? = some x) (h : p x = true) : (rkV.take (i + 1)).filter p = (rkV.take i).filter p ++ [x] := by
  rw [List.take_succ, e, List.filter_append]
  simp [h]
theorem take_no {p : V → Bool} {i : Nat} {x : V} (e : rkV[i]? = some x) (h : p x = false) : (rkV.take (i + 1)).filter p = (rkV.take i).filter p := by
  rw [List.take_succ, e, List.filter_append]
  simp [h]
theorem mates {z : Str} {n : Int} (h : rkS z = some n) : (rkV.filter fun y => decide (y = V.str z)) = [V.str z] ∧ (rkV.filter fun y => !decide (y = V.str z)).length = 3 ∧
    SeqAt.shaped (.list [.str z]) = true ∧ PyData.eqv (.list [.str z]) (.list [.str z]) = true := by
  rcases rk_word (d := .str z) h with q | q | q | q <;> (cases q; exact ⟨by decide +kernel, by decide +kernel, by decide +kernel, by decide +kernel⟩)
theorem rkV_len {p : V → Bool} {i : Nat} : ((rkV.take i).filter p).length < sizeLine := by
  have h1 := List.length_filter_le p (rkV.take i)
  have h2 : (rkV.take i).length ≤ 4 := by rw [List.length_take]; exact Nat.min_le_right _ _
  have h3 : 16 < sizeLine := by decide
  omega
end Rm

set_option maxRecDepth 100000
set_option maxHeartbeats 4000000
namespace Rm
open PySem PySem.Spec L2
open PyProof.Rows hiding St

/-! ### the end: the law's promise, asked by the caller that has no display under way -/
section
variable {P : Program} {w : World} {K : PySem.W.Frag} {mg mb : Str → Option Value} {k : Nat} {fa a : Addr} {fd : FuncData} {x : Str} {sp : Sp}
variable {s : Shared} {vs : List Value} {ns : List Int}
/-- what the caller is told -/
def Told (s : Shared) (r : Result) (s' : Shared) : Prop :=
  r = .ok (.ret (.bool true)) ∧ OldK s.heap s'.heap ∧ s'.os = s.os ∧ AllBare s'.gens
/-- the heap H tracks the script at most -/
structure Bare (P : Program) (w : World) (K : PySem.W.Frag) (s : Shared) (a : Addr) (H : Hp) : Prop where
  only : Only H
  hok : HOk P w H s.heap
  at_ : ∀ b u, H b = some u → b = a
  out : ∀ u, H a = some u → K.lookup a = none
  lst : ∃ vs : List Value, s.heap.get? a = some { cls := .type "list", data := .seq vs.toArray }
theorem Bare.dict {H : Hp} (B : Bare P w K s a H) {b : Addr} {o : Obj} {es : Array DictEntry} {ep : Nat}
    (e : s.heap.get? b = some o) (d : o.data = .dict es ep) : H b = none := by
  cases q : H b with
  | none => rfl
  | some u =>
    obtain ⟨vs, l⟩ := B.lst
    have z := B.at_ b u q
    rw [z, l] at e
    cases e
    exact absurd (show Data.seq vs.toArray _ = Data.dict es ep from d) (by intro y; cases y)
theorem Bare.names {H : Hp} (B : Bare P w K s a H) {b : Addr} {m : Str → Option Value} (h : s.heap.Ns b m) : (hidT s.heap H).Ns b m := by
  obtain ⟨o, es, ep, e, d, r⟩ := h
  exact ⟨o, es, ep, hidT_get e (B.dict e d), d, r⟩
theorem Bare.kin {H : Hp} (B : Bare P w K s a H) (KX : K.In s.heap) : K.In (hidT s.heap H) := fun b o e => by
  refine hidT_get (KX b o e) ?_
  cases q : H b with
  | none => rfl
  | some u =>
    have z := B.at_ b u q
    subst z
    rw [B.out u q] at e
    cases e
theorem told_of {H : Hp} (B : Bare P w K s a H) (KX : K.In s.heap) (hns : s.heap.Ns mainGlobals mg) (hb : s.heap.Ns builtinsNs mb)
    (hbb : ∀ y : Str, y ≠ "__name__" → mb y = bootBuiltins y) (hlim : s.heap.NoLimit) (hg : s.gens = #[]) (hr : Room k callerA)
    (F : ∀ base : Heap, K.In base → base.Ns mainGlobals mg → FnG P w K mg base CX0 k fa fd [x] sp)
    (hbind : ∀ (s : Shared) (u : Value), BindsTo s fd ⟨[u], []⟩ [(x, u)])
    (q : sp [.ref a] H (fun v _ => v = .bl true) E0) :
    codeAny (model P w) callerA (.call (.ref fa) ⟨[.ref a], []⟩) (Told s) s := by
  have kin := B.kin KX
  have lim : (hidT s.heap H).NoLimit := by
    obtain ⟨mc, h1, h2⟩ := hlim
    exact ⟨mc, B.names h1, h2⟩
  have md : Mod K mg (hidT s.heap H) := ⟨kin, B.names hns, ⟨mb, B.names hb, hbb⟩, lim⟩
  have none_in : ∀ b : Addr, b ∉ ([] : List Addr) := fun b z => by cases z
  have env : Env0 P w K mg (hidT s.heap H) callerA [] s H :=
    ⟨rfl, md, fun b o e => of_hidT e, Nat.le_of_eq (hidT_size _ _), trivial, fun b z => absurd z (none_in b), B.hok, .of_eq hg⟩
  have run := (F _ kin (B.names hns)).run callerA [] s H ⟨[.ref a], []⟩ [.ref a] [.ref a] _ _ hr rfl env (hbind s (.ref a)) (.cons rfl .nil) q
  refine codeAny_mono run fun r s' h => ?_
  match r, h with
  | .error e, h => exact False.elim h
  | .ok .next, h => exact False.elim h
  | .ok .brk, h => exact False.elim h
  | .ok .cont, h => exact False.elim h
  | .ok (.ret u), ⟨v, H', os, bare, un, hok', r', ev⟩ =>
    have ev : v = .bl true := ev
    subst ev
    have eu : u = Value.bool true := r'
    subst eu
    refine ⟨rfl, OldK.of_keep fun b o e => ?_, os, bare⟩
    rcases B.only b with z | ⟨ob, xs, z⟩
    · exact un.keep b o e z (none_in b) (none_in b)
    · have e1 := (B.hok b _ z).1
      have e2 := (hok' b _ (un.frzs b ob _ z)).1
      exact e2.trans (e1.symm.trans e)
/-- the script as the one tracked thing -/
def scH (a : Addr) (vs : List Value) (ns : List Int) : Hp := fun b =>
  if b = a then some (.frz { cls := .type "list", data := .seq vs.toArray } (.lst (ns.map V.int))) else none
theorem bare_sc (hk : K.lookup a = none) (ha : s.heap.get? a = some { cls := .type "list", data := .seq vs.toArray }) (hi : IntsAre vs ns)
    (hl : ns.length ≤ sizeLine) : Bare P w K s a (scH a vs ns) := by
  have at_ : ∀ b u, scH a vs ns b = some u → b = a := fun b u z => by
    unfold scH at z
    split at z
    · assumption
    · cases z
  refine ⟨fun b => ?_, fun b u z => ?_, at_, fun _ _ => hk, vs, ha⟩
  · unfold scH
    split
    · exact .inr ⟨_, _, rfl⟩
    · exact .inl rfl
  · have e := at_ b u z
    subst e
    unfold scH at z
    rw [if_pos rfl] at z
    cases z
    exact ⟨ha, by rw [List.length_map]; exact hl, vs, _, vals_ints hi, ha⟩
theorem bare_k (ha : s.heap.get? a = some { cls := .type "list", data := .seq vs.toArray }) : Bare P w K s a (fun _ => none) :=
  ⟨fun _ => .inl rfl, fun _ _ z => (nomatch z), fun _ _ z => (nomatch z), fun _ z => (nomatch z), vs, ha⟩
end
theorem walkG {l : PySem.W.OpenLaw} {k : Nat} {q : Program} {loose : List Str} {XP : (Str → Option Value) → Heap → Prop} {YP : World → Heap → Prop} {d : DefRec}
    {K : Params → PySem.W.Frag} (hn : l.most = some 63) (hdf : d.params.defaults = []) (hr : Room k callerA)
    (hY : ∀ (w : World) (h : Heap), YP w h → (K w.params).In h)
    (F : ∀ (w : World) (mg : Str → Option Value) (fa : Addr) (h : Heap), (K w.params).In h → h.Ns mainGlobals mg → mg d.name = some (.ref fa) →
      ∃ fd : FuncData, (∀ (s : Shared) (u : Value), BindsTo s fd ⟨[u], []⟩ [("_law_script", u)]) ∧
        ∀ base : Heap, (K w.params).In base → base.Ns mainGlobals mg → FnG l.prog w (K w.params) mg base CX0 k fa fd ["_law_script"] (spLaw (K w.params))) :
    PySem.W.WalkO q loose XP YP l.row.toRowW d [] (fun f vs => PySem.call f vs) := by
  refine Att.attach_callB hn hdf fun w s₀ s mg mb fa o pm cd doc a vs ns G Y ho hd hcd hmg ha hi hlen hbits hg => ?_
  have KX := hY w _ Y
  obtain ⟨fd, hb, hF⟩ := F w mg fa _ KX G.T.g hmg
  have hl : ns.length ≤ sizeLine := Nat.le_trans hlen (by decide)
  have go : ∀ H : Hp, Bare l.prog w (K w.params) s a H → SqL (K w.params) H a (ns.map V.int) →
      codeAny (model l.prog w) callerA (.call (.ref fa) ⟨[.ref a], []⟩) (Told s) s := fun H B S =>
    told_of B KX G.T.g G.T.b G.T.builtins G.T.nolimit hg hr hF hb ⟨a, ns, rfl, S, hlen, hbits, fun _ => rfl⟩
  cases hk : (K w.params).lookup a with
  | none => exact go _ (bare_sc hk ha hi hl) (.inl (.inr ⟨_, if_pos rfl⟩))
  | some ob =>
    have e := KX a ob hk
    rw [ha] at e
    cases e
    refine go _ (bare_k ha) (.inr ⟨_, vs.toArray, _, hk, rfl, rfl, rfl, ?_, ?_⟩)
    · rw [List.size_toArray, hi.length]; exact hl
    · simpa using vals_ints hi
/-- an error of the class at C is what `except` of C names -/
theorem em_self {K : PySem.W.Frag} {C : Addr} (h1 : PySem.W.subIn K (.ref C) (.type "BaseException") = some true) (h2 : PySem.W.hasDictIn K C = true)
    (h3 : PySem.W.typeIn K (.ref C) = some (.type "type")) (h4 : PySem.W.mroIn K C (.ref C) = some true) : PySem.W.exmOne K (.ref C) (.ref C) = some true := by
  have e : (PySem.W.clsIn K C).isSome = true := by
    obtain ⟨cd, z, _⟩ := PySem.W.any_some h2
    rw [z]; rfl
  unfold PySem.W.exmOne PySem.W.kitCls
  dsimp only
  rw [if_pos (by rw [h1]; rfl), if_pos (by rw [e, h3]; rfl)]
  exact h4
end Rm

set_option maxRecDepth 100000
set_option maxHeartbeats 4000000
namespace Rm
open PySem PySem.Spec L2
open PyProof.Rows hiding St

/-! ### one keyword and nothing else -/
/-- the keyword y fills the last of ps, behind n values -/
structure Kw1 (fd : FuncData) (ps : List Str) (n : Nat) (y : Str) : Prop where
  to : ∀ (s : Shared) (us : List Value) (w : Value), us.length = n → BindsTo s fd ⟨us, [(y, w)]⟩ (ps.zip (us ++ [w]))
def CmK (P : Program) (w : World) (K : PySem.W.Frag) (mg : Str → Option Value) (base : Heap) (CX : CXT)
    (k : Nat) (C : Addr) (m : Str) (ps : List Str) (y : Str) (sp : Sp) : Prop :=
  ∃ f fd, Cls K C ∧ Meth K C m f ∧ Kw1 fd ps 1 y ∧ FnG P w K mg base CX k f fd ps sp
def CnK (P : Program) (w : World) (K : PySem.W.Frag) (mg : Str → Option Value) (base : Heap) (CX : CXT)
    (k : Nat) (x : Str) (C : Addr) (ps : List Str) (y : Str) (sp : Sp) : Prop :=
  ∃ f fd, mg x = some (.ref C) ∧ Mk K C f ∧ Kw1 fd ps 1 y ∧ FnG P w K mg base CX k f fd ps sp
section
variable {X : Cx} {CX : CXT} {k n : Nat} {f C : Addr} {fd : FuncData} {ps : List Str} {sp : Sp} {E : XK} {x m y : Str} {p pos apos kpos : Pos} {e o : Expr} {te ta : TE}
theorem goes1 {pins : List (Addr × Obj)} {σ : L2.St} {H : Hp} {s : Shared} {Q : VK} {us : List Value} {vs : List V} {u : Value} {v : V}
    (F : FnG X.prog X.w X.K X.mg X.base CX k f fd ps sp) (hr : Room k X.A) (hG : Gd X.A) (hb : Kw1 fd ps n y) (hx : Passes CX X E)
    (I : Inv X pins σ H s) (r : Vals vs us) (rv : RelV v u) (hl : vs.length = n) (h : sp (vs ++ [v]) H Q E) :
    wpAny (model X.prog X.w) X.A (call (.ref f) us [(y, u)]) (EP X pins σ Q) X.xe s :=
  wpAny_call (codeAny_mono (F.run X.A X.stack s H ⟨us, [(y, u)]⟩ (us ++ [u]) (vs ++ [v]) Q E hr hG I.env0
    (hb.to s us u (r.length.symm.trans hl)) (r.append (.cons rv .nil)) h) fun r s' hq => came hx I hq)
theorem kw_one {pins : List (Addr × Obj)} {σ : L2.St} {H : Hp} {s : Shared} {Q : VK} (ha : PE X e te) (I : Inv X pins σ H s) (h : te σ H Q) :
    wpAny (model X.prog X.w) X.A (evalAll ((backToKw pos (keywordEach [⟨some y, e, kpos⟩] X.env)).map (·.2)))
      (fun us s' => ∃ v u H', us = [u] ∧ Inv X pins σ H' s' ∧ RelV v u ∧ Q v H') X.xe s := by
  show wpAny _ _ (evalAll ((do let v ← eval e X.env; standAt pos; pure v) :: [])) _ _ s
  refine wpAny_evalAll_cons (wpAny_bind (thn (ha.run pins s σ H _ I h) fun u s1 hh => wpAny_bind (wpAny_standAt (wpAny_pure ?_))))
  obtain ⟨v, H1, I1, r1, q1⟩ := hh
  exact wpAny_evalAll_nil ⟨v, u, H1, rfl, I1, r1, q1⟩
theorem pe_cmK {pl : Sem Bool} (D : CmK X.prog X.w X.K X.mg X.base CX k C m ps y sp) (hr : Room k X.A) (hG : Gd X.A)
    (he : PE X o ta) (ha : PE X e te) (hx : Passes CX X E)
    (ht : eval (.Call (.Attribute o m apos) [] [⟨some y, e, kpos⟩] pos) X.env = (do
      let ov ← eval o X.env
      standAt apos.atName
      let (g, first) ← holding [ov] (getMethod ov m pl)
      callWith pos g first (backTo pos (starEach [] X.env)) (backToKw pos (keywordEach [⟨some y, e, kpos⟩] X.env))) := by rfl) :
    PE X (.Call (.Attribute o m apos) [] [⟨some y, e, kpos⟩] pos) (tMeth C m sp [] E ta (tCons te tNil)) := by
  obtain ⟨f, fd, c, hm, hb, F⟩ := D
  constructor
  intro pins s σ H Q I h
  refine PySem.W.methodCall_KW (pl := pl)
    (thn (he.run pins s σ H _ I h) fun u s1 ⟨z, H1, I1, rz, a, dx, fs, ez, ea, l, q⟩ => ?_) ht
  subst ez
  cases rz
  refine getmeth_ok I1 ea c hm l (PySem.W.callWith_KW0 (first := [.ref a]) (h₀ := X.base) I1.ok.mod.kin hm.kp rfl
    (thn (kw_one ha I1 q) fun us s2 hh => ?_) rfl)
  obtain ⟨v, u, H2, rfl, I2, r1, q2⟩ := hh
  exact ⟨I2.kIn, goes1 (us := [.ref a]) (vs := [.ref a]) F hr hG hb hx I2 (.cons rfl .nil) r1 rfl q2⟩
theorem grows1 {pins : List (Addr × Obj)} {σ : L2.St} {H : Hp} {s : Shared} {Q : VK} {v : V} {u : Value} (M : Mk X.K C f)
    (F : FnG X.prog X.w X.K X.mg X.base CX k f fd ps sp) (hr : Room (k + 1) X.A) (hG : Gd X.A) (hb : Kw1 fd ps 1 y) (hx : Passes CX X E)
    (I : Inv X pins σ H s) (rv : RelV v u)
    (h : ∀ z dx, H z = none → H dx = none → dx ≠ z → sp [.ref z, v] (upd (upd H dx (.own z)) z (.ins C dx [])) (fun v H2 => v = .non ∧ Q (.ref z) H2) E) :
    wpAny (model X.prog X.w) X.A (call (.ref C) [] [(y, u)]) (EP X pins σ Q) X.xe s := by
  have hq := h (s.heap.objs.size + 1) s.heap.objs.size (I.hok.fresh (Nat.le_succ _)) (I.hok.fresh (Nat.le_refl _)) (Nat.ne_of_lt (Nat.lt_succ_self _))
  have I2 := Inv.made (C := C) I
  refine wpAny_call (make_map (f := f) I.kIn M.makes M.init (beq_iff_eq.mp M.fn)
    (codeAny_mono (F.run _ X.stack _ _ ⟨[Value.ref (s.heap.objs.size + 1)], [(y, u)]⟩ [Value.ref (s.heap.objs.size + 1), u] _ _ E
      (hr.make C [] [(y, u)]) (hG.make C [] [(y, u)]) (I2.env0.make C [] [(y, u)])
      (hb.to _ [Value.ref (s.heap.objs.size + 1)] u rfl) (show Vals [V.ref (s.heap.objs.size + 1), v] _ from .cons rfl (.cons rv .nil)) hq) fun r s' hq' => ?_))
  match r, hq' with
  | .error er, hq' => exact hx pins σ _ _ er s' I2 hq'
  | .ok (.ret z), hq' =>
    obtain ⟨v, H', I3, rz, ev, q3⟩ := I2.after hq'
    subst ev
    exact ⟨rz, V.ref (s.heap.objs.size + 1), H', I3, rfl, q3⟩
  | .ok .next, hq' => exact False.elim hq'
  | .ok .brk, hq' => exact False.elim hq'
  | .ok .cont, hq' => exact False.elim hq'
theorem pe_cnK (D : CnK X.prog X.w X.K X.mg X.base CX k x C ps y sp) (hr : Room (k + 1) X.A) (hG : Gd X.A) (ha : PE X e te) (hx : Passes CX X E)
    (hg : Gl X x := by rfl) (hdb : (x == ("__debug__" : Str)) = false := by decide) :
    PE X (.Call (.Name x p) [] [⟨some y, e, kpos⟩] pos) (tMake C sp [] E (tCons te tNil)) := by
  obtain ⟨f, fd, hm, M, hb, F⟩ := D
  constructor
  intro pins s σ H Q I h
  refine wpAny_Call_Name_kw (ld_glob I hg hm ?_ hdb)
  refine PySem.W.callWith_KW0 (first := []) (h₀ := X.base) I.ok.mod.kin M.kp rfl (thn (kw_one ha I h) fun us s2 hh => ?_) rfl
  obtain ⟨v, u, H2, rfl, I2, r1, q2⟩ := hh
  exact ⟨I2.kIn, grows1 M F hr hG hb hx I2 r1 q2⟩

/-! ### | by an own __or__ -/
def rOwnOr (C : Addr) (sp : Sp) : R2 := fun x y H Q => ∃ a dx fs b dy gs, x = .ref a ∧ H a = some (.ins C dx fs) ∧ y = .ref b ∧ H b = some (.ins C dy gs) ∧
  sp [x, y] H (fun z H' => (∃ c, z = .ref c) ∧ Q z H') E0
theorem op_ownOr (D : Cm X.prog X.w X.K X.mg X.base CX0 k C "__or__" ps sp) (sf : PySem.W.selfFirst X.K C = true) (hr : Room k X.A) (hG : Gd X.A) :
    OpR X (binaryOp .BitOr) (rOwnOr C sp) := by
  intro pins s σ H x y v u Q I rx ry h
  obtain ⟨a, dx, fs, b, dy, gs, rfl, ha, rfl, hb', q⟩ := h
  cases rx
  cases ry
  obtain ⟨f, fd, c, hm, hb, F0⟩ := D
  obtain ⟨mA, O, _⟩ := ins_get I.hok ha
  obtain ⟨od, J, _⟩ := O.look
  obtain ⟨mB, O', _⟩ := ins_get I.hok hb'
  obtain ⟨od', J', _⟩ := O'.look
  obtain ⟨m, hF⟩ := I.fr
  have hl : ([Value.ref a] ++ [Value.ref b]).length = ps.length := F0.len _ _ _ _ q
  refine PySem.W.binop_K (op := .BitOr) hF I.ok.mod.kin J J'.type sf hm.at_ hm.fn ?_
  refine wpAny_call (codeAny_mono (F0.run X.A X.stack s H ⟨[.ref a, .ref b], []⟩ [.ref a, .ref b] [.ref a, .ref b] _ _ hr hG I.env0
      (by have := hb s [.ref a, .ref b] I.kIn (by simpa using hl); simpa using this) (.cons rfl (.cons rfl .nil)) q) fun rr s' hq => ?_)
  match rr, hq with
  | .error er, hq => exact False.elim hq
  | .ok (.ret z), hq =>
    obtain ⟨y, H', I2, ry, ⟨⟨c, ey⟩, qq⟩⟩ := I.after hq
    subst ey
    cases ry
    exact ⟨.ref c, H', I2, rfl, qq⟩
  | .ok .next, hq => exact False.elim hq
  | .ok .brk, hq => exact False.elim hq
  | .ok .cont, hq => exact False.elim hq
end
end Rm

set_option maxRecDepth 100000
set_option maxHeartbeats 4000000
namespace Rm
open PySem PySem.Spec L2
open PyProof.Rows hiding St

/-! ### static methods -/
structure StM (K : PySem.W.Frag) (C : Addr) (m : Str) (f : Addr) : Prop where
  ga : PySem.W.specialIn K (.ref C) "__getattribute__" = some (some (.builtin "type.__getattribute__"))
  cls : Cls K C
  ty : PySem.W.typeIn K (.ref C) = some (.type "type")
  rd : PySem.W.readsIn K C (.type "type") = true
  at_ : ∃ p rest, PySem.W.findCls K (.ref C) (.type "type") m = some (.get (.builtin "staticmethod.__get__") (.ref p) .none (.ref C)) ∧
    PySem.W.recIn K p "staticmethod" = some (.ref f :: rest) ∧ PySem.W.findIn K (.ref C) m = some (some (.ref p)) ∧ PySem.W.typeIn K (.ref p) = some (.type "staticmethod") ∧
    PySem.W.specialIn K (.ref p) "__get__" = some (some (.builtin "staticmethod.__get__")) ∧ PySem.W.takesIn K (.ref p) = some false
  cp : PySem.W.copiedNames.contains m = false
  kp : PySem.W.keepIn K (.ref f) = true
def Cs (P : Program) (w : World) (K : PySem.W.Frag) (mg : Str → Option Value) (base : Heap) (CX : CXT)
    (k : Nat) (C : Addr) (m : Str) (ps : List Str) (y : Str) (sp : Sp) : Prop :=
  ∃ f fd, StM K C m f ∧ Binds K fd ps [] ∧ Kw1 fd ps 0 y ∧ FnG P w K mg base CX k f fd ps sp
def tStat (C : Addr) (sp : Sp) (E : XK) (ta : TE) (t : TA) : TE := fun σ H Q => ta σ H fun x H1 => x = .ref C ∧ t σ H1 fun vs H2 => sp vs H2 Q E
def tStatI (C : Addr) (m : Str) (sp : Sp) (E : XK) (ta : TE) (t : TA) : TE := fun σ H Q => ta σ H fun x H1 =>
  ∃ a dx fs, x = .ref a ∧ H1 a = some (.ins C dx fs) ∧ fs.lookup m = none ∧ t σ H1 fun vs H2 => sp vs H2 Q E
section
variable {X : Cx} {CX : CXT} {k : Nat} {f C : Addr} {ps : List Str} {sp : Sp} {E : XK} {m y : Str} {pos apos kpos : Pos} {e o : Expr} {es : List Expr} {te ta : TE} {t : TA}
theorem get_sm {pl : Sem Bool} {pins : List (Addr × Obj)} {σ : L2.St} {H : Hp} {s : Shared} {Q : Value × List Value → Shared → Prop} (S : StM X.K C m f) (I : Inv X pins σ H s)
    (h : ∀ s', Inv X pins σ H s' → Q (.ref f, []) s') : wpAny (model X.prog X.w) X.A (getMethod (.ref C) m pl) Q X.xe s := by
  obtain ⟨p, rest, h1, h2, _⟩ := S.at_
  obtain ⟨n, hF⟩ := I.fr
  exact PySem.W.method_of_cls hF I.ok.mod.kin S.ga (PySem.W.cls_sm hF I.ok.mod.kin S.ty S.rd h1 h2 rfl (h _ (I.tok _)))
theorem get_smI {pl : Sem Bool} {pins : List (Addr × Obj)} {σ : L2.St} {H : Hp} {s : Shared} {Q : Value × List Value → Shared → Prop} {a dx : Addr} {fs : List (Str × V)}
    (S : StM X.K C m f) (I : Inv X pins σ H s) (ea : H a = some (.ins C dx fs)) (l : fs.lookup m = none)
    (h : ∀ s', Inv X pins σ H s' → Q (.ref f, []) s') : wpAny (model X.prog X.w) X.A (getMethod (.ref a) m pl) Q X.xe s := by
  obtain ⟨p, rest, _, h2, h3, h4, h5, h6⟩ := S.at_
  obtain ⟨mA, O, r, _⟩ := ins_get I.hok ea
  have hn : mA m = none := RelO.none_of (by rw [← l]; exact r m)
  obtain ⟨od, J, lk⟩ := O.look
  have pg := PySem.W.plainGet_of (S.cls.get m)
  refine PySem.W.method_usual (r := some (.ref p)) I.kIn J pg.1 pg.2 h3 (by simp only [Option.all_some, h4, Option.any_some]; decide +kernel) ?_
  refine PySem.W.get_bind I.kIn J pg.1 (PySem.W.findObj_fn S.cls.hd h3 h5 h6 S.cp (by rw [lk, hn])) pg.2 ?_
  exact wpAny_call (PySem.W.sm_get (s := { s with toks := s.toks + 1 }) I.kIn h2 (PySem.W.handed_on rfl (h _ (I.tok _))))
theorem pe_cs {pl : Sem Bool} (D : Cs X.prog X.w X.K X.mg X.base CX k C m ps y sp) (hr : Room k X.A) (hG : Gd X.A)
    (he : PE X o ta) (ha : PA X (e :: es) t) (hx : Passes CX X E)
    (hst : starEach (e :: es) X.env = (false, eval e X.env) :: starEach es X.env := by rfl)
    (hpl : (backTo pos (starEach es X.env)).any (·.1) = false := by rfl)
    (ht : eval (.Call (.Attribute o m apos) (e :: es) [] pos) X.env = (do
      let ov ← eval o X.env
      standAt apos.atName
      let (g, first) ← holding [ov] (getMethod ov m pl)
      callWith pos g first (backTo pos (starEach (e :: es) X.env)) (backToKw pos (keywordEach [] X.env))) := by rfl) :
    PE X (.Call (.Attribute o m apos) (e :: es) [] pos) (tStat C sp E ta t) := by
  obtain ⟨f, fd, S, hb, _, F⟩ := D
  constructor
  intro pins s σ H Q I h
  refine PySem.W.methodCall_KW (pl := pl) (thn (he.run pins s σ H _ I h) fun u s1 ⟨z, H1, I1, rz, ez, q⟩ => ?_) ht
  subst ez
  cases rz
  refine get_sm S I1 fun s2 I2 => PySem.W.callWith_K (first := []) (h₀ := X.base) I.ok.mod.kin S.kp (thn (ha.run pos pins s2 σ H1 _ I2 q) fun us s3 ⟨vs, H2, I3, r, q2⟩ =>
      ⟨I3.kIn, goes (dvs := []) (ds := []) F hr hG hb .nil hx I3 r (by rw [List.append_nil]; exact q2)⟩) hst hpl
theorem pe_csI {pl : Sem Bool} (D : Cs X.prog X.w X.K X.mg X.base CX k C m ps y sp) (hr : Room k X.A) (hG : Gd X.A)
    (he : PE X o ta) (ha : PA X (e :: es) t) (hx : Passes CX X E)
    (hst : starEach (e :: es) X.env = (false, eval e X.env) :: starEach es X.env := by rfl)
    (hpl : (backTo pos (starEach es X.env)).any (·.1) = false := by rfl)
    (ht : eval (.Call (.Attribute o m apos) (e :: es) [] pos) X.env = (do
      let ov ← eval o X.env
      standAt apos.atName
      let (g, first) ← holding [ov] (getMethod ov m pl)
      callWith pos g first (backTo pos (starEach (e :: es) X.env)) (backToKw pos (keywordEach [] X.env))) := by rfl) :
    PE X (.Call (.Attribute o m apos) (e :: es) [] pos) (tStatI C m sp E ta t) := by
  obtain ⟨f, fd, S, hb, _, F⟩ := D
  constructor
  intro pins s σ H Q I h
  refine PySem.W.methodCall_KW (pl := pl) (thn (he.run pins s σ H _ I h) fun u s1 ⟨z, H1, I1, rz, a, dx, fs, ez, ea, l, q⟩ => ?_) ht
  subst ez
  cases rz
  refine get_smI S I1 ea l fun s2 I2 => PySem.W.callWith_K (first := []) (h₀ := X.base) I.ok.mod.kin S.kp (thn (ha.run pos pins s2 σ H1 _ I2 q) fun us s3 ⟨vs, H2, I3, r, q2⟩ =>
      ⟨I3.kIn, goes (dvs := []) (ds := []) F hr hG hb .nil hx I3 r (by rw [List.append_nil]; exact q2)⟩) hst hpl
theorem pe_csK {pl : Sem Bool} (D : Cs X.prog X.w X.K X.mg X.base CX k C m ps y sp) (hr : Room k X.A) (hG : Gd X.A)
    (he : PE X o ta) (ha : PE X e te) (hx : Passes CX X E)
    (ht : eval (.Call (.Attribute o m apos) [] [⟨some y, e, kpos⟩] pos) X.env = (do
      let ov ← eval o X.env
      standAt apos.atName
      let (g, first) ← holding [ov] (getMethod ov m pl)
      callWith pos g first (backTo pos (starEach [] X.env)) (backToKw pos (keywordEach [⟨some y, e, kpos⟩] X.env))) := by rfl) :
    PE X (.Call (.Attribute o m apos) [] [⟨some y, e, kpos⟩] pos) (tStat C sp E ta (tCons te tNil)) := by
  obtain ⟨f, fd, S, _, hb, F⟩ := D
  constructor
  intro pins s σ H Q I h
  refine PySem.W.methodCall_KW (pl := pl) (thn (he.run pins s σ H _ I h) fun u s1 ⟨z, H1, I1, rz, ez, q⟩ => ?_) ht
  subst ez
  cases rz
  refine get_sm S I1 fun s2 I2 => PySem.W.callWith_KW0 (first := []) (h₀ := X.base) I.ok.mod.kin S.kp rfl (thn (kw_one ha I2 q) fun us s3 hh => ?_) rfl
  obtain ⟨v, u, H2, rfl, I3, r1, q2⟩ := hh
  exact ⟨I3.kIn, goes1 (us := []) (vs := []) F hr hG hb hx I3 .nil r1 rfl q2⟩
end
end Rm

set_option maxRecDepth 100000
set_option maxHeartbeats 4000000
namespace Rm
open PySem PySem.Spec L2
open PyProof.Rows hiding St

/-! ### max(list of words, key=own def, default=None) -/
/-- an object that nothing of ours knows -/
structure Apart (X : Cx) (pins : List (Addr × Obj)) (H : Hp) (a : Addr) : Prop where
  na : H a = none
  nL : a ≠ X.env.locals
  nF : a ∉ X.fs
  n0 : X.s_0.heap.get? a = none
  nC : ∀ x c, X.env.cells.lookup x = some c → c ≠ a
  nP : ∀ p ∈ X.pn ++ pins, p.1 ≠ a
section
variable {X : Cx} {pins : List (Addr × Obj)} {σ : L2.St} {H : Hp} {s : Shared} {a : Addr}
theorem Apart.new (I : Inv X pins σ H s) (h : s.heap.objs.size ≤ a) : Apart X pins H a := by
  have no : s.heap.get? a = none := Heap.get?_none_of_le h
  refine ⟨I.hok.fresh h, fun e => ?_, I.nofs h, Heap.get?_none_of_le (Nat.le_trans I.sz h), fun x c e z => ?_, fun p hp z => ?_⟩
  · rw [e] at h
    exact absurd (Nat.lt_of_lt_of_le I.lt h) (Nat.lt_irrefl _)
  · obtain ⟨v, o, ho, _⟩ := I.cell x c e
    rw [z, no] at ho
    cases ho
  · have := (I.pin p hp).1
    rw [z, no] at this
    cases this
theorem Inv.other {h' : Heap} {t' : Nat} (I : Inv X pins σ H s) (A : Apart X pins H a)
    (k : ∀ b o, b ≠ a → s.heap.get? b = some o → h'.get? b = some o) : Inv X pins σ H { s with heap := h', toks := t' } := by
  obtain ⟨m, hn, hlk⟩ := id I.loc
  have ne0 : ∀ b o, X.s_0.heap.get? b = some o → b ≠ a := fun b o e z => by rw [z, A.n0] at e; cases e
  have ns : h'.Ns X.env.locals m := by
    obtain ⟨o, es, ep, e, d, r⟩ := hn
    exact ⟨o, es, ep, k _ _ (Ne.symm A.nL) e, d, r⟩
  refine ⟨I.ok, I.os, I.bare, ⟨fun b o e n hb hx => ?_, fun b o e n hb hx => ?_, I.base.free, fun b o e hx => ?_, I.base.tups, I.base.frzs, I.base.tbls⟩,
    ⟨m, ns, fun i x v e1 e2 e3 => ?_⟩, fun x c e => ?_, I.free, I.freeC, fun p hp => ?_, fun b ob e => ?_, I.len⟩
  · exact k _ _ (ne0 b o e) (I.base.keep b o e n hb hx)
  · obtain ⟨sl, e1⟩ := I.base.slot b o e n hb hx
    exact ⟨sl, k _ _ (ne0 b o e) e1⟩
  · obtain ⟨o', e1⟩ := I.base.there b o e hx
    exact ⟨o', k _ _ (ne0 b o e) e1⟩
  · obtain ⟨u, r, q⟩ := hlk i x v e1 e2 e3
    refine ⟨u, r, ?_⟩
    rcases q with q | ⟨kk, c, e, z⟩
    · exact .inl q
    · obtain ⟨o, ho, hd⟩ := z
      exact .inr ⟨kk, c, e, o, k _ _ (A.nC x c e) ho, hd⟩
  · obtain ⟨v, o, ho, hd⟩ := I.cell x c e
    exact ⟨v, o, k _ _ (A.nC x c e) ho, hd⟩
  · obtain ⟨e, r⟩ := I.pin p hp
    exact ⟨k _ _ (A.nP p hp) e, r⟩
  · refine (I.hok b ob e).stay (fun c w' hc q => k _ _ ?_ q) (fun _ q => q) fun _ _ q => q
    intro z
    subst z
    rcases hc with hc | hc
    · rw [← hc, A.na] at e; cases e
    · rw [A.na] at hc; cases hc
end
/-- the first of the greatest -/
def better (b : Option (Str × Int)) (p : Str × Int) : Option (Str × Int) := match b with
  | none => some p
  | some q => if p.2 > q.2 then some p else some q
def bestL (ws : List (Str × Int)) : Option (Str × Int) := ws.foldl better none
def bestV (ws : List (Str × Int)) : V := match bestL ws with
  | none => .non
  | some p => .str p.1
theorem best_next {ws : List (Str × Int)} {i : Nat} {p : Str × Int} (e : ws[i]? = some p) : bestL (ws.take (i + 1)) = better (bestL (ws.take i)) p := by
  unfold bestL
  rw [List.take_succ, e, List.foldl_append]
  rfl
/-- what the loop keeps of the best one so far -/
def Held (b : Option (Str × Int)) (items : List Value) : Prop := match b with
  | none => items = []
  | some p => ∃ t t', items = [.str p.1 t, .int p.2 t']
theorem max_args (a v d : Value) : argsOk "max" ⟨[a], [(Str.ofString "key", v), (Str.ofString "default", d)]⟩ := by unfold argsOk; kernel_rfl
section
variable {X : Cx} {pins : List (Addr × Obj)} {σ : L2.St} {H : Hp} {l q it S : Addr} {ws : List (Str × Int)} {fd : FuncData} {R : Result → Shared → Prop}
theorem max_loop (F0 : FnG X.prog X.w X.K X.mg X.base CX0 1 q fd ["word"] spRank) (hb : Binds X.K fd ["word"] []) (hr : Room 2 X.A) (hG : Gd X.A)
    (hh : X.A.handled = none) (hw : ∀ p ∈ ws, rkS p.1 = some p.2) (hl : SqL X.K H l (ws.map fun p => V.str p.1))
    (aI : Apart X pins H it) (aS : Apart X pins H S) (ne : it ≠ S)
    (hR : ∀ u s', Inv X pins σ H s' → RelV (bestV ws) u → R (.ok (.ret u)) s') :
    ∀ (r i : Nat) (s : Shared) (items : List Value) (c : Nat), ws.length - i = r → i ≤ ws.length → Inv X pins σ H s → s.heap.IsListIter it l i →
      s.heap.get? S = some (seqObj "list" items.toArray c) → Held (bestL (ws.take i)) items →
      codeAny (model X.prog X.w) X.A (.builtin "max.loop" ⟨[.ref it, .ref q, .ref S], [(Str.ofString "default", .none)]⟩) R s := by
  have hname : (toString "max" ++ toString ".loop" : String) = "max.loop" := by decide
  intro r
  induction r with
  | zero =>
    intro i s items c hi hle I hit hS hacc
    have e : i = ws.length := by omega
    subst e
    rw [List.take_length] at hacc
    obtain ⟨its, rv, hls, _⟩ := I.list hl
    have hn : its.toArray[ws.length]? = none := by
      have e1 := rv.length
      rw [List.length_map] at e1
      rw [e1]
      simp
    refine codeAny_builtin PySem.F.entry_max_loop ?_
    rw [Around.under_plainId PySem.F.plain_max_loop _]
    show wpAny _ X.A.in1 (seqItems? (.ref S) >>= _) _ _ _
    refine wpAny_bind (wpAny_seqItems hS rfl ?_)
    show wpAny _ X.A.in1 (tryCatch (pyNext (.ref it)) _ >>= _) _ _ _
    refine wpAny_bind (wpAny_tryCatch (wpAny_pyNext_list_end hh hit hls.isList hn fun h' hk => ?_))
    have I1 : Inv X pins σ H { s with heap := h' } := Inv.other (t' := s.toks) I aI fun b o nb e => hk b o nb e
    have hS' := hk S _ (Ne.symm ne) hS
    unfold bestV at hR
    cases hB : bestL ws with
    | none =>
      rw [hB] at hacc hR
      have hacc : items = [] := hacc
      subst hacc
      refine wpAny_bind (wpAny_rule (wpAny_pure ?_))
      exact hR .none _ I1 rfl
    | some p =>
      rw [hB] at hacc hR
      obtain ⟨t, t', hacc⟩ := (show ∃ t t', items = [.str p.1 t, .int p.2 t'] from hacc)
      subst hacc
      show wpAny _ X.A.in1 (updateSeq S (fun _ => #[]) >>= _) _ _ _
      refine wpAny_bind ?_
      refine wpAny_updateSeq hS' rfl (wpAny_bind (wpAny_letGo (wpAny_pure ?_)))
      exact hR _ _ (Inv.other (t' := s.toks) I1 aS fun b o nb e => ((Heap.SameBut.update h' S _).2 b nb).trans e) ⟨t, rfl⟩
  | succ r ih =>
    intro i s items c hi hle I hit hS hacc
    have hlt : i < ws.length := by omega
    obtain ⟨its, rv, hls, _⟩ := I.list hl
    have ep : ws[i]? = some ws[i] := List.getElem?_eq_getElem hlt
    have em : (ws.map fun p => V.str p.1)[i]? = some (V.str ws[i].1) := by rw [List.getElem?_map, ep]; rfl
    obtain ⟨u, hu, ru⟩ := rv.get em
    obtain ⟨t, rfl⟩ := ru
    refine codeAny_builtin PySem.F.entry_max_loop ?_
    rw [Around.under_plainId PySem.F.plain_max_loop _]
    show wpAny _ X.A.in1 (seqItems? (.ref S) >>= _) _ _ _
    refine wpAny_bind (wpAny_seqItems hS rfl ?_)
    show wpAny _ X.A.in1 (tryCatch (pyNext (.ref it)) _ >>= _) _ _ _
    refine wpAny_bind (wpAny_tryCatch (wpAny_pyNext_list_item hit hls.isList (x := .str ws[i].1 t) (by simpa using hu) fun h' hit' hk => ?_))
    have I1 : Inv X pins σ H { s with heap := h' } := Inv.other (t' := s.toks) I aI fun b o nb e => (hk.2 b nb).trans e
    have hS' := (hk.2 S (Ne.symm ne)).trans hS
    obtain ⟨oI, hoI, hoc, hod⟩ := hit'
    -- the call
    have rk := hw _ (List.getElem_mem hlt)
    have P1 : Inv X ((it, oI) :: (S, seqObj "list" items.toArray c) :: pins) σ H { s with heap := h' } := I1.pins_of fun p hp => by
      rcases List.mem_cons.mp hp with e | hp
      · subst e
        exact ⟨hoI, aI.na, aI.nL, aI.nF, fun v z => by have z' : oI.data = .cell v := z; rw [hod] at z'; cases z'⟩
      · rcases List.mem_cons.mp hp with e | hp
        · subst e
          exact ⟨hS', aS.na, aS.nL, aS.nF, fun v z => nomatch z⟩
        · exact I1.pin p (List.mem_append_right _ hp)
    show wpAny _ X.A.in1 (tryCatch (holding [.str ws[i].1 t] (call (.ref q) [.str ws[i].1 t])) _ >>= _) _ _ _
    have q1 : spRank [V.str ws[i].1] H (fun v H' => v = .int ws[i].2 ∧ H' = H) E0 := ⟨_, _, rfl, rk, rfl, rfl⟩
    have run := F0.run X.A.in1 X.stack { s with heap := h' } H ⟨[.str ws[i].1 t], []⟩ [.str ws[i].1 t] [.str ws[i].1] _ _ hr.in1 hG.in1 P1.env0.in1
      (hb _ [.str ws[i].1 t] P1.kIn rfl) (.cons ⟨t, rfl⟩ .nil) q1
    refine wpAny_bind (wpAny_tryCatch (wpAny_holding (wpAny_call (codeAny_mono run fun rr s2 hq => ?_))))
    match rr, hq with
    | .error er, hq => exact False.elim hq
    | .ok .next, hq => exact False.elim hq
    | .ok .brk, hq => exact False.elim hq
    | .ok .cont, hq => exact False.elim hq
    | .ok (.ret z), hq =>
      obtain ⟨y, H2, I2, ry, ey, eH⟩ := P1.after hq
      subst ey
      subst eH
      obtain ⟨t2, rfl⟩ := ry
      have gI := (I2.pin (it, oI) (List.mem_append_right _ (.head _))).1
      have gS := (I2.pin (S, seqObj "list" items.toArray c) (List.mem_append_right _ (.tail _ (.head _)))).1
      have I3 : Inv X pins σ H2 s2 := I2.pins_of fun p hp => I2.pin p (List.mem_append_right _ (.tail _ (.tail _ hp)))
      have bn := best_next ep
      cases hB : bestL (ws.take i) with
      | none =>
        rw [hB] at hacc bn
        have hacc : items = [] := hacc
        subst hacc
        have s1 := Heap.SameBut.update s2.heap S (Obj.mapSeq fun _ => #[Value.str ws[i].1 t, .int ws[i].2 t2])
        obtain ⟨c2, hc2⟩ : ∃ c2, (s2.heap.update S (Obj.mapSeq fun _ => #[Value.str ws[i].1 t, .int ws[i].2 t2])).get? S = some (seqObj "list" #[Value.str ws[i].1 t, .int ws[i].2 t2] c2) :=
          ⟨_, get?_update_seq gS fun _ => #[Value.str ws[i].1 t, .int ws[i].2 t2]⟩
        show wpAny _ X.A.in1 (updateSeq S (fun _ => #[Value.str ws[i].1 t, .int ws[i].2 t2]) >>= _) _ _ _
        refine wpAny_bind ?_
        refine wpAny_updateSeq gS rfl ?_
        rw [hname]
        refine wpAny_pure ⟨plainId_quiet PySem.F.plain_max_loop _, ih (i + 1) _ [.str ws[i].1 t, .int ws[i].2 t2] c2 (by omega) hlt (Inv.other (t' := s2.toks) I3 aS fun b o nb e => (s1.2 b nb).trans e)
          ⟨oI, (s1.2 it ne).trans gI, hoc, hod⟩ hc2 ?_⟩
        rw [bn]
        exact ⟨t, t2, rfl⟩
      | some p =>
        rw [hB] at hacc bn
        obtain ⟨tb, tb', hacc⟩ := (show ∃ t t', items = [.str p.1 t, .int p.2 t'] from hacc)
        subst hacc
        show wpAny _ X.A.in1 (tryCatch (holding [.str ws[i].1 t, .int ws[i].2 t2] (richCompare .Gt (.int ws[i].2 t2) (.int p.2 tb') >>= _)) _ >>= _) _ _ _
        refine wpAny_bind (wpAny_tryCatch (wpAny_holding (wpAny_bind (CmpOf.ints_gt (prog := X.prog) (w := X.w) (A := X.A.in1) (P := fun n v => ∃ t, v = .int (if n = 0 then ws[i].2 else p.2) t)
          (fun n => if n = 0 then ws[i].2 else p.2) (fun i v h => h) 0 1 _ _ _ _ _ ⟨t2, rfl⟩ ⟨tb', rfl⟩ ?_))))
        refine wpAny_bind (wpAny_holding (wpAny_truthy_bool ?_))
        refine wpAny_bind (wpAny_letGo (wpAny_pure ?_))
        simp only [if_true, Nat.one_ne_zero, if_false]
        by_cases hgt : ws[i].2 > p.2
        · have s1 := Heap.SameBut.update s2.heap S (Obj.mapSeq fun _ => #[Value.str ws[i].1 t, .int ws[i].2 t2])
          obtain ⟨c2, hc2⟩ : ∃ c2, (s2.heap.update S (Obj.mapSeq fun _ => #[Value.str ws[i].1 t, .int ws[i].2 t2])).get? S = some (seqObj "list" #[Value.str ws[i].1 t, .int ws[i].2 t2] c2) :=
            ⟨_, get?_update_seq gS fun _ => #[Value.str ws[i].1 t, .int ws[i].2 t2]⟩
          simp only [hgt, decide_true, if_true]
          refine wpAny_bind ?_
          refine wpAny_updateSeq gS rfl (wpAny_bind (wpAny_letGo ?_))
          rw [hname]
          refine wpAny_pure ⟨plainId_quiet PySem.F.plain_max_loop _, ih (i + 1) _ [.str ws[i].1 t, .int ws[i].2 t2] c2 (by omega) hlt (Inv.other (t' := s2.toks) I3 aS fun b o nb e => (s1.2 b nb).trans e)
            ⟨oI, (s1.2 it ne).trans gI, hoc, hod⟩ hc2 ?_⟩
          rw [bn]
          show Held (if _ then _ else _) _
          rw [if_pos hgt]
          exact ⟨t, t2, rfl⟩
        · simp only [hgt, decide_false, Bool.false_eq_true, if_false]
          refine wpAny_bind (wpAny_letGo ?_)
          rw [hname]
          refine wpAny_pure ⟨plainId_quiet PySem.F.plain_max_loop _, ih (i + 1) _ [.str p.1 tb, .int p.2 tb'] c (by omega) hlt I3 ⟨oI, gI, hoc, hod⟩ gS ?_⟩
          rw [bn]
          show Held (if _ then _ else _) _
          rw [if_neg hgt]
          exact ⟨tb, tb', rfl⟩
end
end Rm

set_option maxRecDepth 100000
set_option maxHeartbeats 4000000
namespace Rm
open PySem PySem.Spec L2
open PyProof.Rows hiding St
/-- max(ws, key=rank, default=None): the first of the greatest, or None -/
def rMaxW (K : PySem.W.Frag) (q : Addr) : List V → List V → Hp → VK → Prop := fun vs zs H Q => ∃ l ws, vs = [.ref l] ∧ zs = [.ref q, .non] ∧
  SqL K H l (ws.map fun p : Str × Int => V.str p.1) ∧ (∀ p ∈ ws, rkS p.1 = some p.2) ∧ Q (bestV ws) H
theorem call_maxW {X : Cx} {q : Addr} {fd : FuncData} (F0 : FnG X.prog X.w X.K X.mg X.base CX0 1 q fd ["word"] spRank) (hb : Binds X.K fd ["word"] []) (hr : Room 2 X.A) (hG : Gd X.A)
    (hc : X.calm = true) : CallRK X (.builtin "max") ["key", "default"] (rMaxW X.K q) := by
  have hname : (toString "max" ++ toString ".loop" : String) = "max.loop" := by decide
  intro pins s σ H vs us zs ws Q I r rz h
  obtain ⟨l, ps, rfl, rfl, hl, hw, hQ⟩ := h
  rw [Vals.ref1 r]
  obtain ⟨w1, w2, rfl, r1, r2⟩ := vals2 rz
  cases r1
  cases r2
  obtain ⟨its, rv, hls, _⟩ := I.list hl
  show wpAny _ X.A (call (.builtin "max") [.ref l] [(Str.ofString "key", .ref q), (Str.ofString "default", .none)]) _ _ s
  refine kmk_tree PySem.F.kind_max PySem.F.plain_max PySem.F.entry_max (max_args _ _ _) ?_
  show wpAny _ X.A.in1 (Builtin.Builtins.bindParams "max" ["key", "default"] 0 ⟨[], [(Str.ofString "key", .ref q), (Str.ofString "default", .none)]⟩ >>= _) _ _ s
  refine wpAny_bind (wpAny_of_eq (show Builtin.Builtins.bindParams "max" ["key", "default"] 0 ⟨[], [(Str.ofString "key", .ref q), (Str.ofString "default", .none)]⟩ = pure [some (.ref q), some .none] from rfl) ?_)
  refine wpAny_bind (wpAny_pure ?_)
  refine wpAny_bind (wpAny_pyIter_list hls.isList ?_)
  refine wpAny_bind (wpAny_newList ?_ (Nat.zero_le _))
  rw [hname]
  refine wpAny_pure ⟨plainId_quiet PySem.F.plain_max_loop _, ?_⟩
  have hS : (s.heap.push { cls := .type "list_iterator", data := .fields #[.ref l, .int 0 0] }).objs.size = s.heap.objs.size + 1 := size_push' ..
  have I1 : Inv X pins σ H { s with heap := s.heap.push { cls := .type "list_iterator", data := .fields #[.ref l, .int 0 0] } } :=
    I.kept (t' := s.toks) fun b o e => Heap.get?_push_of_some _ e
  have I2 : Inv X pins σ H { s with heap := (s.heap.push { cls := .type "list_iterator", data := .fields #[.ref l, .int 0 0] }).push (seqObj "list" #[] 0) } :=
    I1.kept (t' := s.toks) fun b o e => Heap.get?_push_of_some _ e
  have gI : ((s.heap.push { cls := .type "list_iterator", data := .fields #[.ref l, .int 0 0] }).push (seqObj "list" #[] 0)).get? s.heap.objs.size =
      some { cls := .type "list_iterator", data := .fields #[.ref l, .int 0 0] } := Heap.get?_push_of_some _ (Heap.get?_push_size _ rfl)
  have gS : ((s.heap.push { cls := .type "list_iterator", data := .fields #[.ref l, .int 0 0] }).push (seqObj "list" #[] 0)).get?
      (s.heap.push { cls := .type "list_iterator", data := .fields #[.ref l, .int 0 0] }).objs.size = some (seqObj "list" #[] 0) := Heap.get?_push_size _ rfl
  refine max_loop F0 hb hr hG (I.ok.hd hc) hw hl (Apart.new I (Nat.le_refl _)) (Apart.new I (by rw [hS]; exact Nat.le_succ _)) (by rw [hS]; exact Nat.ne_of_lt (Nat.lt_succ_self _))
    (fun u s' J ru => ?_) _ 0 _ [] 0 rfl (Nat.zero_le _) I2 ⟨_, gI, rfl, rfl⟩ gS rfl
  exact ⟨bestV ps, H, J, ru, hQ⟩
end Rm

set_option maxRecDepth 100000
set_option maxHeartbeats 4000000
namespace Rm
open PySem PySem.Spec L2
open PyProof.Rows hiding St

/-! ### xs[::-1] -/
def tRevL (K : PySem.W.Frag) (te ts : TE) : TE := fun σ H Q => te σ H fun x H1 => ts σ H1 fun y H2 => y = .int (-1) ∧ ∃ a xs, x = .ref a ∧ SqL K H2 a xs ∧
  ∀ p, H2 p = none → Q (.ref p) (upd H2 p (.lst xs.reverse))
theorem pe_rev {X : Cx} {e st : Expr} {te ts : TE} {p2 pos : Pos} (he : PE X e te) (hst : PE X st ts) :
    PE X (.Subscript e (.Slice none none (some st) p2) pos) (tRevL X.K te ts) := by
  refine ⟨fun pins s σ H Q I h => ?_⟩
  refine Subscript_ (thn (he.run pins s σ H _ I h) fun v s1 hh => ?_)
  obtain ⟨x, H1, I1, r1, q1⟩ := hh
  refine wpAny_Slice ?_
  rw [evalPart_none]
  refine wpAny_pure (wpAny_pure ?_)
  rw [evalPart_some]
  refine thn (hst.run pins s1 σ H1 _ I1 q1) fun vs s3 hh => ?_
  obtain ⟨y, H3, I3, ry, ey, a, xs, ex, hl, q⟩ := hh
  subst ey
  subst ex
  cases r1
  obtain ⟨t, rfl⟩ := ry
  have I4 : Inv X pins σ H3 { s3 with heap := s3.heap.push { cls := .type "slice", data := .fields #[.none, .none, .int (-1) t] } } :=
    I3.kept (t' := s3.toks) fun b ob q => Heap.get?_push_of_some _ q
  obtain ⟨its, r, ht, hz⟩ := I4.list hl
  have hlen := r.length
  show wpAny (model X.prog X.w) X.A (subscriptTail e (.Slice none none (some st) p2) (.ref a) (.ref s3.heap.objs.size)) (EP X pins σ Q) X.xe { s3 with heap := s3.heap.push { cls := .type "slice", data := .fields #[.none, .none, .int (-1) t] } }
  refine tail_any (ops := [.ref a, .ref s3.heap.objs.size]) ht.isList.typeIs slot_list_getitem.lookup ?_ rfl
  refine wpAny_getItem_list_slice ht.isList (Heap.IsSliceOf.new ..) .none .none (.int (-1) t) (by decide) ?_ (by rw [List.size_toArray] <;> omega)
  rw [PySem.W.krv_pick]
  refine ⟨.ref _, _, I4.laid (t' := s3.toks) (o := .lst xs.reverse) (fun b ob q => Heap.get?_push_of_some _ q) (Nat.le_refl _) ?_, rfl, q _ (I4.hok.fresh (Nat.le_refl _))⟩
  exact ⟨by rw [List.length_reverse]; omega, _, 0, r.reverse, Heap.get?_push_size _ rfl⟩

/-! ### walks -/
theorem for_enum {K : PySem.W.Frag} {a : Addr} {xs : List V} {g : TG} {tb : TS} {D : Ends} {σ : L2.St} {H : Hp} (Pv : Nat → L2.St → Hp → Prop)
    (h0 : Pv 0 σ H) (hl : ∀ i σ H, i ≤ xs.length → Pv i σ H → SqL K H a xs)
    (hs : ∀ i x T σ H, xs[i]? = some x → Pv i σ H → H T = none → g (.ref T) σ (upd H T (.tup [.int (i : Nat), x])) fun σ2 H2 => tb { D with nx := Pv (i + 1), ct := Pv (i + 1), bk := D.nx } σ2 H2)
    (hd : ∀ σ H, Pv xs.length σ H → D.nx σ H) :
    ∃ W : Nat → Nat → L2.St → Hp → Prop, (∃ m, W 0 m σ H) ∧ ∀ i m σ H, W i m σ H →
      ((Ite K a).stop i H ∧ D.nx σ H) ∨ ((Ite K a).go i H ∧ ∃ N : L2.St → Hp → Prop, (∀ σ' H', N σ' H' → ∃ m', m' < m ∧ W (i + 1) m' σ' H') ∧
        ∀ x H', (Ite K a).yld i H x H' → g x σ H' fun σ2 H2 => tb { D with nx := N, ct := N, bk := D.nx } σ2 H2) := by
  refine ⟨fun i m σ H => m = xs.length - i ∧ i ≤ xs.length ∧ Pv i σ H, ⟨xs.length, by simp, Nat.zero_le _, h0⟩, ?_⟩
  rintro i m σ H ⟨rfl, hi, p⟩
  have q := hl i σ H hi p
  by_cases hlt : i < xs.length
  · refine .inr ⟨⟨xs, xs[i], q, List.getElem?_eq_getElem hlt⟩, Pv (i + 1), fun σ' H' p' => ⟨xs.length - (i + 1), by omega, rfl, hlt, p'⟩, fun v H' y => ?_⟩
    obtain ⟨T, x, rfl, nT, rfl, e⟩ := y
    exact hs i x T σ _ (e xs q) p nT
  · have e : i = xs.length := by omega
    subst e
    exact .inl ⟨⟨xs, q, Nat.le_refl _⟩, hd σ H p⟩
theorem lc_range {lo : Int} {n : Nat} {g : TG} {tt : TT} {te : TE} {vs : List Nat} {σ : L2.St} {H1 : Hp} {D : Addr} {Qd : Hp → Prop} (Pv : Nat → Hp → Prop)
    (h0 : Pv 0 (upd H1 D (.lst [])))
    (hs : ∀ i H, i < n → Pv i H → g (.int (lo + (i : Nat))) (wipe σ vs) H fun σ2 H2 => wipe σ2 vs = wipe σ vs ∧ tt σ2 H2 fun b H3 =>
      if b = true then te σ2 H3 fun y H4 => ∃ acc, H4 D = some (.lst acc) ∧ acc.length < sizeLine ∧ Pv (i + 1) (upd H4 D (.lst (acc ++ [y]))) else Pv (i + 1) H3)
    (hd : ∀ H, Pv n H → Qd H) :
    ∃ W : Nat → Nat → Hp → Prop, (∃ m, W 0 m (upd H1 D (.lst []))) ∧ ∀ i m H, W i m H →
      ((Itr lo n).stop i H ∧ Qd H) ∨ ((Itr lo n).go i H ∧ ∃ Nx : Hp → Prop, (∀ H', Nx H' → ∃ m', m' < m ∧ W (i + 1) m' H') ∧ ∀ x H', (Itr lo n).yld i H x H' →
        g x (wipe σ vs) H' fun σ2 H2 => wipe σ2 vs = wipe σ vs ∧ tt σ2 H2 fun b H3 =>
          if b = true then te σ2 H3 fun y H4 => ∃ acc, H4 D = some (.lst acc) ∧ acc.length < sizeLine ∧ Nx (upd H4 D (.lst (acc ++ [y]))) else Nx H3) := by
  refine ⟨fun i m H => m = n - i ∧ i ≤ n ∧ Pv i H, ⟨n, by simp, Nat.zero_le _, h0⟩, ?_⟩
  rintro i m H ⟨rfl, hi, p⟩
  by_cases hlt : i < n
  · refine .inr ⟨hlt, Pv (i + 1), fun H' p' => ⟨n - (i + 1), by omega, rfl, hlt, p'⟩, fun x H' y => ?_⟩
    obtain ⟨e, y⟩ := y
    subst e y
    exact hs i _ hlt p
  · have e : i = n := by omega
    subst e
    exact .inl ⟨Nat.le_refl _, hd H p⟩

/-! ### what the modes' comparing defs keep -/
/-- two modes, their ranks -/
def spTwo (C : Addr) (r : Addr → Int → Addr → Int → V) : Sp := fun vs H Q _ => ∃ a dx z i b dy z' j, vs = [.ref a, .ref b] ∧ H a = some (mdO C dx z) ∧ H b = some (mdO C dy z') ∧
  rkS z = some i ∧ rkS z' = some j ∧ Q (r a i b j) H
def spWk (C : Addr) : Sp := spTwo C fun _ i _ j => .bl (decide (i < j))
def spCl (C : Addr) : Sp := spTwo C fun _ i _ j => .bl (decide (i + j ≥ 5))
def spOr (C : Addr) : Sp := spTwo C fun a i b j => if i < j then .ref b else .ref a
def spStr (K : PySem.W.Frag) : Sp := fun vs H Q _ => ∃ l ws, vs = [.ref l] ∧ SqL K H l (ws.map fun p : Str × Int => V.str p.1) ∧ (∀ p ∈ ws, rkS p.1 = some p.2) ∧ Q (bestV ws) H
/-- the grades are right -/
def spGr (K : PySem.W.Frag) : Sp := fun vs H Q _ => ∃ g, vs = [.ref g] ∧ SqL K H g rkV ∧ ∀ H', Same H H' → Q (.bl true) H'
theorem rk_at {i : Nat} {x : V} (h : rkV[i]? = some x) : ∃ z, x = .str z ∧ rkS z = some ((i : Int) + 1) ∧ i < 4 := by
  match i, h with
  | 0, h => cases h; exact ⟨_, rfl, rfl, by decide⟩
  | 1, h => cases h; exact ⟨_, rfl, rfl, by decide⟩
  | 2, h => cases h; exact ⟨_, rfl, rfl, by decide⟩
  | 3, h => cases h; exact ⟨_, rfl, rfl, by decide⟩
  | n + 4, h => cases h
theorem sm3 (a b c : Bool) : Sm (.list [.bool a, .bool b, .bool c]) := by
  cases a <;> cases b <;> cases c <;> exact Sm.of (by decide +kernel)
theorem eqv2 (a b : Bool) : SeqAt.shaped (.list [.bool a, .bool b]) = true ∧ PyData.eqv (.list [.bool a, .bool b]) (.list [.bool a, .bool b]) = true := by
  cases a <;> cases b <;> exact ⟨by decide +kernel, by decide +kernel⟩
theorem kit_self {K : PySem.W.Frag} {C : Addr} : PySem.W.kitOne K (.ref C) (.ref C) = some true := by
  unfold PySem.W.kitOne
  rw [if_pos (by simp)]
theorem rk_ge {i : Nat} {z : Str} {H : Hp} {n : Int} (h : rkV[i]? = some (.str z)) (e : n = i) : atI rkV n = some (V.str z) := by
  subst e
  exact atI_nat h
theorem cut2 (a b c : V) : cutV [a, b, c] none (some 2) = [a, b] := by
  unfold cutV
  rfl
/-! ### modes made and joined -/
/-- the reading gives a mode of the word z, rank n -/
def MdR (C : Addr) (t : TE) (σ : L2.St) (z : Str) (n : Int) : Prop :=
  rkS z = some n ∧ ∀ (H : Hp) (Q : VK), (∀ a dx H', Same H H' → H' a = some (mdO C dx z) → Q (.ref a) H') → t σ H Q
theorem md_make {K : PySem.W.Frag} {C : Addr} {σ : L2.St} {z : Str} {n : Int} {i : Nat} (hi : σ[i]? = some (some (.str z))) (hz : rkS z = some n) :
    MdR C (tMake C (spModeQ K C) [] E0 (tCons (tVar i) tNil)) σ z n := by
  refine ⟨hz, fun H Q h => ⟨_, hi, fun x dx nx nd ne => ⟨x, dx, z, n, rfl, upd_same, hz, rfl, ?_⟩⟩⟩
  rw [upd_upd]
  exact h x dx _ (same_two nd nx ne) upd_same
theorem md_or {C : Addr} {tA tB : TE} {σ : L2.St} {z z' : Str} {n n' : Int} (A : MdR C tA σ z n) (B : MdR C tB σ z' n') :
    MdR C (tOp (rOwnOr C (spOr C)) tA tB) σ (if n < n' then z' else z) (if n < n' then n' else n) := by
  obtain ⟨hz, hA⟩ := A
  obtain ⟨hz', hB⟩ := B
  refine ⟨by split <;> assumption, fun H Q h => hA H _ fun a dx H1 s1 ha => hB H1 _ fun b dy H2 s2 hb => ?_⟩
  refine ⟨a, dx, _, b, dy, _, rfl, s2 _ _ ha, rfl, hb, a, dx, z, n, b, dy, z', n', rfl, s2 _ _ ha, hb, hz, hz', ?_⟩
  dsimp only
  by_cases e : n < n'
  · simp only [e, if_true] at h ⊢
    exact ⟨⟨b, rfl⟩, h b dy H2 (s1.trans s2) hb⟩
  · simp only [e, if_false] at h ⊢
    exact ⟨⟨a, rfl⟩, h a dx H2 (s1.trans s2) (s2 _ _ ha)⟩
theorem asg_md {C : Addr} {te : TE} {B : TS} {D : Ends} {σ : L2.St} {H : Hp} {i : Nat} {z : Str} {n : Int} (M : MdR C te σ z n)
    (h : ∀ a dx H', Same H H' → H' a = some (mdO C dx z) → B D (σ.set i (some (.ref a))) H') : tSeq (tAsg te (gName i)) B D σ H :=
  M.2 H _ fun a dx H' s e => h a dx H' s e
theorem rk_inj {z z' : Str} {n : Int} (h : rkS z = some n) (h' : rkS z' = some n) : z = z' := by
  rcases rk_word (d := .str z) h with q | q | q | q <;> rcases rk_word (d := .str z') h' with q' | q' | q' | q' <;> (cases q; cases q') <;> rfl
theorem rk_ix {z : Str} {m : Int} (h : rkS z = some (m + 1)) : atI rkV m = some (V.str z) := by
  rcases rk_word (d := .str z) h with q | q | q | q
  all_goals (obtain ⟨q1, q2⟩ := Prod.mk.inj q; cases q1)
  · have e : m = (0 : Nat) := by omega
    subst e; exact atI_nat (xs := rkV) (j := 0) rfl
  · have e : m = (1 : Nat) := by omega
    subst e; exact atI_nat (xs := rkV) (j := 1) rfl
  · have e : m = (2 : Nat) := by omega
    subst e; exact atI_nat (xs := rkV) (j := 2) rfl
  · have e : m = (3 : Nat) := by omega
    subst e; exact atI_nat (xs := rkV) (j := 3) rfl
end Rm

set_option maxRecDepth 100000
set_option maxHeartbeats 4000000
namespace Rm
open PySem PySem.Spec L2
open PyProof.Rows hiding St

/-! ### the strongest of drawn words -/
theorem fold_none : ∀ (ws : List (Str × Int)) (b : Option (Str × Int)), ws.foldl better b = none → b = none ∧ ws = []
  | [], b, h => ⟨h, rfl⟩
  | x :: r, b, h => by
    have h2 := (fold_none r (better b x) h).1
    cases b with
    | none => cases h2
    | some q =>
      simp only [better] at h2
      split at h2 <;> cases h2
theorem fold_some : ∀ (ws : List (Str × Int)) (b : Option (Str × Int)) (p : Str × Int), ws.foldl better b = some p →
    (p ∈ ws ∨ b = some p) ∧ (∀ q ∈ ws, q.2 ≤ p.2) ∧ ∀ q, b = some q → q.2 ≤ p.2
  | [], b, p, h => by
    have h : b = some p := h
    refine ⟨.inr h, fun _ z => (by cases z), fun q e => ?_⟩
    rw [e] at h
    cases h
    exact Int.le_refl _
  | x :: r, b, p, h => by
    obtain ⟨h1, h2, h3⟩ := fold_some r (better b x) p h
    cases b with
    | none =>
      have hx := h3 x rfl
      refine ⟨.inl ?_, fun q hq => ?_, fun q e => (by cases e)⟩
      · rcases h1 with h1 | h1
        · exact List.mem_cons_of_mem _ h1
        · cases h1; exact List.mem_cons_self ..
      · rcases List.mem_cons.mp hq with e | hq
        · rw [e]; exact hx
        · exact h2 q hq
    | some y =>
      simp only [better] at h1 h3
      by_cases c : x.2 > y.2
      · rw [if_pos c] at h1 h3
        have hx := h3 x rfl
        refine ⟨.inl ?_, fun q hq => ?_, fun q e => ?_⟩
        · rcases h1 with h1 | h1
          · exact List.mem_cons_of_mem _ h1
          · cases h1; exact List.mem_cons_self ..
        · rcases List.mem_cons.mp hq with e | hq
          · rw [e]; exact hx
          · exact h2 q hq
        · cases e; omega
      · rw [if_neg c] at h1 h3
        have hy := h3 y rfl
        refine ⟨?_, fun q hq => ?_, fun q e => ?_⟩
        · rcases h1 with h1 | h1
          · exact .inl (List.mem_cons_of_mem _ h1)
          · exact .inr h1
        · rcases List.mem_cons.mp hq with e | hq
          · rw [e]; omega
          · exact h2 q hq
        · cases e; exact hy
theorem best_cases (ws : List (Str × Int)) : (ws = [] ∧ bestV ws = .non) ∨ ∃ p ∈ ws, bestL ws = some p ∧ bestV ws = .str p.1 ∧ ∀ q ∈ ws, q.2 ≤ p.2 := by
  cases h : bestL ws with
  | none => exact .inl ⟨(fold_none ws none h).2, by unfold bestV; rw [h]⟩
  | some p =>
    obtain ⟨h1, h2, _⟩ := fold_some ws none p h
    rcases h1 with h1 | h1
    · exact .inr ⟨p, h1, rfl, by unfold bestV; rw [h], h2⟩
    · cases h1
theorem best_rev {ws : List (Str × Int)} (hw : ∀ p ∈ ws, rkS p.1 = some p.2) : bestV ws.reverse = bestV ws := by
  rcases best_cases ws with ⟨e, h⟩ | ⟨p, hp, _, h, hm⟩
  · subst e; rfl
  · rcases best_cases ws.reverse with ⟨e, h'⟩ | ⟨p', hp', _, h', hm'⟩
    · have := List.reverse_eq_nil_iff.mp e
      subst this
      cases hp
    · rw [h, h']
      have a := hm p' (List.mem_reverse.mp hp')
      have b := hm' p (List.mem_reverse.mpr hp)
      have r1 := hw p hp
      have r2 := hw p' (List.mem_reverse.mp hp')
      have e : p.2 = p'.2 := by omega
      rw [e] at r1
      rw [rk_inj r1 r2]
def strV (ws : List (Str × Int)) : List V := ws.map fun p => V.str p.1
theorem in_yes {ws : List (Str × Int)} {p : Str × Int} (h : p ∈ ws) : inV (.str p.1) (strV ws) = true := by
  unfold inV strV
  rw [List.any_eq_true]
  exact ⟨.str p.1, List.mem_map.mpr ⟨p, h, rfl⟩, by simp [eqV]⟩
theorem in_no {ws : List (Str × Int)} {z : Str} (h : ∀ q ∈ ws, q.1 ≠ z) : inV (.str z) (strV ws) = false := by
  unfold inV strV
  rw [List.any_eq_false]
  intro v hv
  obtain ⟨q, hq, rfl⟩ := List.mem_map.mp hv
  simp [eqV]
  exact h q hq
def dueStep (xs : List V) (d g : V) : V := if inV g xs = true then g else d
def dueOf (gs xs : List V) : V := gs.foldl (dueStep xs) .non
theorem due_next {xs : List V} {i : Nat} {x : V} (e : rkV[i]? = some x) : dueOf (rkV.take (i + 1)) xs = dueStep xs (dueOf (rkV.take i) xs) x := by
  unfold dueOf
  rw [List.take_succ, e, List.foldl_append]
  rfl
theorem due_best {ws : List (Str × Int)} (hw : ∀ p ∈ ws, rkS p.1 = some p.2) : dueOf rkV (strV ws) = bestV ws := by
  show dueStep (strV ws) (dueStep (strV ws) (dueStep (strV ws) (dueStep (strV ws) .non (.str "hold")) (.str "keep")) (.str "change")) (.str "replace") = _
  rcases best_cases ws with ⟨e, h⟩ | ⟨p, hp, _, h, hm⟩
  · subst e; rw [h]; rfl
  · rw [h]
    have hi := in_yes hp
    have no : ∀ {z : Str} {n : Int}, rkS z = some n → p.2 < n → inV (.str z) (strV ws) = false := fun {z n} hz hn => in_no fun q hq e => by
      have r := hw q hq
      rw [e, hz] at r
      have := hm q hq
      cases r
      omega
    obtain ⟨w, n⟩ := p
    rcases rk_word (d := .str w) (hw _ hp) with e | e | e | e <;> cases e
    · unfold dueStep
      rw [no (z := "replace") (n := 4) rfl (by show (1 : Int) < 4; decide), no (z := "change") (n := 3) rfl (by show (1 : Int) < 3; decide), no (z := "keep") (n := 2) rfl (by show (1 : Int) < 2; decide)]
      rw [show inV (.str "hold") (strV ws) = true from hi]
      rfl
    · unfold dueStep
      rw [no (z := "replace") (n := 4) rfl (by show (2 : Int) < 4; decide), no (z := "change") (n := 3) rfl (by show (2 : Int) < 3; decide)]
      rw [show inV (.str "keep") (strV ws) = true from hi]
      rfl
    · unfold dueStep
      rw [no (z := "replace") (n := 4) rfl (by show (3 : Int) < 4; decide)]
      rw [show inV (.str "change") (strV ws) = true from hi]
      rfl
    · unfold dueStep
      rw [show inV (.str "replace") (strV ws) = true from hi]
      rfl
def bestD (ws : List (Str × Int)) : PyData := match bestL ws with
  | none => .none
  | some p => .str p.1
theorem best_dx {K : PySem.W.Frag} {H : Hp} (ws : List (Str × Int)) : Dx K H (bestV ws) (bestD ws) := by
  unfold bestV bestD
  cases bestL ws with
  | none => exact .non
  | some p => exact .str _
theorem best_sm {ws : List (Str × Int)} (hw : ∀ p ∈ ws, rkS p.1 = some p.2) : Sm (bestD ws) := by
  rcases best_cases ws with ⟨e, h⟩ | ⟨p, hp, h, _, _⟩
  · subst e; exact Sm.of (by decide +kernel)
  · unfold bestD
    rw [h]
    rcases rk_word (d := .str p.1) (hw _ hp) with e | e | e | e <;> (obtain ⟨e1, _⟩ := Prod.mk.inj e; show Sm (.str p.1); rw [e1]; exact Sm.of (by decide +kernel))
def strD (ws : List (Str × Int)) : PyData := .list (ws.map fun p => .str p.1)
theorem str_all {K : PySem.W.Frag} {H : Hp} : ∀ ws : List (Str × Int), DpAll K H (strV ws) (ws.map fun p => .str p.1)
  | [] => .nil
  | p :: r => .cons (.str _) (str_all r)
theorem str_lay : ∀ {ws : List (Str × Int)}, (∀ p ∈ ws, rkS p.1 = some p.2) → PyData.canLayAll0 (ws.map fun p => PyData.str p.1) = true ∧ PyData.depthAll (ws.map fun p => PyData.str p.1) = 0
  | [], _ => ⟨by simp [PyData.canLayAll0], by simp [PyData.depthAll]⟩
  | p :: r, h => by
    obtain ⟨h1, h2⟩ := str_lay (ws := r) fun q hq => h q (List.mem_cons_of_mem _ hq)
    have hp : PyData.canLay0 (.str p.1) = true := by
      rcases rk_word (d := .str p.1) (h p (List.mem_cons_self ..)) with e | e | e | e <;> (obtain ⟨e1, _⟩ := Prod.mk.inj e; rw [e1]; decide +kernel)
    refine ⟨?_, ?_⟩
    · simp only [List.map_cons, PyData.canLayAll0, hp, h1, Bool.true_and]
    · simp only [List.map_cons, PyData.depthAll, PyData.depth, h2, Nat.max_self]
theorem str_shaped {ws : List (Str × Int)} (h : ∀ p ∈ ws, rkS p.1 = some p.2) : SeqAt.shaped (strD ws) = true := by
  obtain ⟨h1, h2⟩ := str_lay h
  unfold SeqAt.shaped strD
  simp only [PyData.canLay0, PyData.depth, h1, h2]
  decide
theorem pool_at {k : Int} (h0 : 0 ≤ k) (h1 : k < 4) : 1 ≤ (cutV rkV none (some (1 + k))).length ∧ (cutV rkV none (some (1 + k))).length ≤ 4 ∧
    ∀ (i : Nat) (v : V), (cutV rkV none (some (1 + k)))[i]? = some v → ∃ z n, v = V.str z ∧ rkS z = some n := by
  refine ⟨?_, Nat.le_trans (cutV_length _ _ _) (by decide), fun i v h => ?_⟩
  · have : k = 0 ∨ k = 1 ∨ k = 2 ∨ k = 3 := by omega
    rcases this with e | e | e | e <;> (subst e; decide +kernel)
  · have m := List.mem_of_getElem? h
    unfold cutV at m
    have m2 := List.mem_of_mem_drop (List.mem_of_mem_take m)
    obtain ⟨j, hj, e⟩ := List.getElem_of_mem m2
    exact rk_str (i := j) (by rw [← e]; exact List.getElem?_eq_getElem hj)
end Rm

set_option maxRecDepth 100000
set_option maxHeartbeats 4000000
namespace Rm
open PySem PySem.Spec L2
open PyProof.Rows hiding St

/-! ### an own error made by one keyword -/
section
variable {P : Program} {w : World} {A : Around} {EX : Value → Shared → Prop} {hp : Heap} {gs : Array GenState} {dr : Drawn} {tk : Nat} {os : OsState}
variable {nm qn : Str} {C NS f : Addr} {bs bm : List Value} {sn : List Str} {sub : List Value} {ab : Bool} {col : Option Bool} {dd : Option Addr}
variable {j0 j1 j2 j3 j5 : Option Value} {y : Str} {u : Value}
/-- the class's own object -/
def ErO (C : Addr) (hp : Heap) (bm : List Value) : Prop :=
  ∃ nm qn NS bs sn sub ab col dd j0 j1 j2 j3 j5,
    hp.get? C = some (excClassObj nm qn C NS bs bm true sn sub ab col dd j0 j1 j2 j3 j5 "ValueError.__new__") ∧ PySem.HandSPX.refsVE bm = true
theorem kw_check {Q : Unit → Shared → Prop} (hC : hp.get? C = some (excClassObj nm qn C NS bs bm true sn sub ab col dd j0 j1 j2 j3 j5 "ValueError.__new__"))
    (hbm : PySem.HandSPX.refsVE bm = true) (z : Q () ⟨hp, gs, dr, tk, os⟩) :
    wpAny (model P w) A (checkBuiltinCall "ValueError.__new__" ⟨[.ref C], [(y, u)]⟩) Q EX ⟨hp, gs, dr, tk, os⟩ := by
  have c1 : (Value.ref C :: bm).contains (.type "ValueError") = true := by
    rw [List.contains_cons, PySem.HandSPX.refsVE_contains "ValueError" bm hbm, F.excBase_ValueError.hasB, Bool.or_true]
  have st := F.excBase_ValueError.noStar
  simp only [checkBuiltinCall, F.excBase_ValueError.newKind, F.excBase_ValueError.newSplit, F.excBase_ValueError.newRow]
  repeat (first
    | refine wpAny_loadPart_at hC ?_
    | (refine wpAny_isSubtype_exc hC ?_; rw [c1])
    | refine wpAny_staticBase_exc hC ?_
    | refine wpAny_madeBy_exc hC ?_
    | simp only [bne_self_eq_false, Bool.false_eq_true, if_false]
    | wp_step)
  exact z
theorem kw_new {R : Result → Shared → Prop} (hC : hp.get? C = some (excClassObj nm qn C NS bs bm true sn sub ab col dd j0 j1 j2 j3 j5 "ValueError.__new__"))
    (hbm : PySem.HandSPX.refsVE bm = true)
    (z : R (.ok (.ret (.ref (hp.objs.size + 1)))) ⟨(hp.push (PySem.W.kdv_tup [])).push (PySem.HandSPX.excO C hp.objs.size), gs, dr, tk, os⟩) :
    codeAny (model P w) A (.builtin "ValueError.__new__" ⟨[.ref C], [(y, u)]⟩) R ⟨hp, gs, dr, tk, os⟩ := by
  have has : ∀ (X : String) (b : Bool), PySem.HandSPX.veTail.contains (.type X) = b → (Value.ref C :: bm).contains (.type X) = b := fun X b e => by
    rw [List.contains_cons, PySem.HandSPX.refsVE_contains X bm hbm, e]
    rfl
  have c1 := has "ValueError" true F.excBase_ValueError.hasB
  have c2 := has "AttributeError" false F.excBase_ValueError.noAttr
  have c3 := has "NameError" false F.excBase_ValueError.noName
  have en := F.excBase_ValueError.ends
  refine codeAny_builtinAt F.excBase_ValueError.entry ?_
  unfold Builtin.«BaseException.__new__»
  refine PySem.wpAt_bind ?_
  show PySem.wpAt _ _ _ (stack >>= _) _ _ _
  refine PySem.wpAt_bind (PySem.wpAt_stack fun p below => PySem.wpAt_of_wpAny ?_)
  wp_walk
  refine PySem.wpAt_of_wpAny ?_
  rw [F.excBase_ValueError.owner]
  repeat (first
    | with_reducible refine wpAny_madeHere_exc F.excBase_ValueError.canon hC ?_
    | with_reducible refine wpAny_loadPart_at hC ?_
    | (with_reducible refine wpAny_isSubtype_exc hC ?_; first | rw [c1] | rw [c2] | rw [c3])
    | wp_step)
  show R _ _
  rw [Heap.size_push]
  exact z
theorem kw_type {Q : Fin → Shared → Prop} (hC : hp.get? C = some (excClassObj nm qn C NS bs bm true sn sub ab col dd j0 j1 j2 j3 j5 "ValueError.__new__"))
    (hbm : PySem.HandSPX.refsVE bm = true)
    (hi : PySem.W.Looks (model P w) hp (typeLookup (.ref C) "__init__") (some (.ref f))) (hb : ∀ self, PySem.W.Looks (model P w) hp (bindSpecial (.ref f) self) (.ref f, [self]))
    (z : codeAny (model P w) A (.call (.ref f) ⟨[.ref (hp.objs.size + 1)], [(y, u)]⟩)
      (fun r s' => match r with
        | .ok (.ret v) => v = .none ∧ Q (.done (.ret (.ref (hp.objs.size + 1)))) s'
        | .ok _ => False
        | .error e => EX e s')
      ⟨(hp.push (PySem.W.kdv_tup [])).push (PySem.HandSPX.excO C hp.objs.size), gs, dr, tk, os⟩) :
    wpAny (model P w) A (Builtin.«type.__call__» ⟨[.ref C], [(y, u)]⟩) Q EX ⟨hp, gs, dr, tk, os⟩ := by
  repeat (first
    | with_reducible refine wpAny_loadPart_at hC ?_
    | with_reducible refine wpAny_madeBy_exc hC ?_
    | wp_step)
  refine codeAny_call_builtin_code (Code.quiet_builtin _ F.excBase_ValueError.quiet) (kw_check hC hbm ?_)
  refine kw_new hC hbm ?_
  show wpAny _ _ _ _ _ _
  have up : ∀ b o, hp.get? b = some o → ((hp.push (PySem.W.kdv_tup [])).push (PySem.HandSPX.excO C hp.objs.size)).get? b = some o :=
    fun b o e => Heap.get?_push_of_some _ (Heap.get?_push_of_some _ e)
  have hC1 := up _ _ hC
  have hE : ((hp.push (PySem.W.kdv_tup [])).push (PySem.HandSPX.excO C hp.objs.size)).get? (hp.objs.size + 1) = some (PySem.HandSPX.excO C hp.objs.size) := by
    heap_get
  have cC : (Value.ref C :: bm).contains (.ref C) = true := by simp
  unfold isInstance
  repeat (first
    | with_reducible refine wpAny_loadPart_at hE ?_
    | (with_reducible refine wpAny_isSubtype_exc hC1 ?_; rw [cC])
    | wp_step)
  show wpAny _ _ (typeLookup (.ref C) _) _ _ _
  refine (hi.keeps up).at ?_
  refine wpAny_holding (wpAny_bind (((hb (.ref (hp.objs.size + 1))).keeps up).at ?_))
  refine wpAny_bind (wpAny_call (codeAny_mono z fun r s' q => ?_))
  match r, q with
  | .error e, q => exact q
  | .ok .next, q => exact q.elim
  | .ok .brk, q => exact q.elim
  | .ok .cont, q => exact q.elim
  | .ok (.ret v), ⟨e, q⟩ =>
    subst e
    first
      | exact wpAny_pure (wpAny_pure q)
      | (wp_walk; exact q)
theorem kw_call {R : Result → Shared → Prop} (hC : hp.get? C = some (excClassObj nm qn C NS bs bm true sn sub ab col dd j0 j1 j2 j3 j5 "ValueError.__new__"))
    (hbm : PySem.HandSPX.refsVE bm = true)
    (hi : PySem.W.Looks (model P w) hp (typeLookup (.ref C) "__init__") (some (.ref f))) (hb : ∀ self, PySem.W.Looks (model P w) hp (bindSpecial (.ref f) self) (.ref f, [self]))
    (z : codeAny (model P w) (A.under (.builtin "type.__call__" ⟨[.ref C], [(y, u)]⟩)) (.call (.ref f) ⟨[.ref (hp.objs.size + 1)], [(y, u)]⟩) (PySem.W.InitBack (hp.objs.size + 1) R)
      ⟨(hp.push (PySem.W.kdv_tup [])).push (PySem.HandSPX.excO C hp.objs.size), gs, dr, tk, os⟩) :
    codeAny (model P w) A (.call (.ref C) ⟨[], [(y, u)]⟩) R ⟨hp, gs, dr, tk, os⟩ := by
  have l1 := tc_lookup
  have l2 := tc_bind (.ref C)
  have ty : (⟨hp, gs, dr, tk, os⟩ : Shared).TypeIs (.ref C) "type" := ⟨_, hC, rfl⟩
  refine codeAny_of_tree ?_
  show wpAny _ _ (callAny (.ref C) _) _ _ _
  repeat (any_goals (first
    | assumption
    | with_reducible refine wpAny_loadPart_at hC ?_
    | wp_step))
  refine ⟨rfl, ?_⟩
  refine codeAny_call_builtin_at (Code.quiet_builtin _ (by decide +kernel)) entry_typeCall (wpAny_check_type_call_sub hC (kw_type hC hbm hi hb ?_))
  refine codeAny_mono z fun r s' q => ?_
  rcases r with e | (v | _ | _ | _) <;> exact q
end
/-- the module's name x is an error class whose __init__ may be called by one keyword -/
def ErK (P : Program) (w : World) (K : PySem.W.Frag) (mg : Str → Option Value) (base : Heap) (x : Str) (C : Addr) (y : Str) : Prop :=
  ∃ f fd, mg x = some (.ref C) ∧ OexC K C ∧ PySem.W.findIn K (.ref C) "__init__" = some (some (.ref f)) ∧
    PySem.W.typeIn K (.ref f) = some (.type "function") ∧ PySem.W.keepIn K (.ref C) = true ∧
    Kw1 fd [("self" : Str), y] 1 y ∧ FnG P w K mg base CX0 2 f fd [("self" : Str), y] (spErr K C y)
section
variable {X : Cx} {C : Addr} {y : Str}
theorem bornK {x : Str} {pins : List (Addr × Obj)} {σ : L2.St} {H : Hp} {s : Shared} {v : V} {u : Value} {E : Value → Shared → Prop}
    (D : ErK X.prog X.w X.K X.mg X.base x C y) (hr : Room 3 X.A) (hG : Gd X.A) (I : Inv X pins σ H s) (r : RelV v u) :
    wpAny (model X.prog X.w) X.A (call (.ref C) [] [(y, u)]) (Born X pins σ H s C y v) E s := by
  obtain ⟨f, fd, hm, T, iC, tI, kC, hb, F0⟩ := D
  obtain ⟨nm, q, N, bs, bm, sn, sub, ab, col, dd, k0, k1, k2, k3, k5, lC, hbm⟩ := T.cls
  obtain ⟨hp, g, dr, tk, os⟩ := s
  have one : hp.objs.size ≤ hp.objs.size + 1 := Nat.le_succ _
  have hn : H (hp.objs.size + 1) = none := I.hok.fresh one
  let hp2 := (hp.push (PySem.W.kdv_tup [])).push (PySem.HandSPX.excO C hp.objs.size)
  have kk : ∀ b o, hp.get? b = some o → hp2.get? b = some o := fun b o e =>
    Heap.get?_push_of_some _ (Heap.get?_push_of_some _ e)
  have hget : hp2.get? (hp.objs.size + 1) = some (PySem.HandSPX.excO C hp.objs.size) := by
    show ((hp.push _).push _).get? _ = _
    heap_get
  have I2 := I.laid (t' := tk) (a := hp.objs.size + 1) (o := exo (hp.objs.size + 1) C none) (h' := hp2) kk one (exo_ok hget)
  have both : Vals [V.ref (hp.objs.size + 1), v] [Value.ref (hp.objs.size + 1), u] := .cons rfl (.cons r .nil)
  have hsp : spErr X.K C y [V.ref (hp.objs.size + 1), v] (upd H (hp.objs.size + 1) (exo (hp.objs.size + 1) C none))
      (fun z H2 => z = .non ∧ ∃ d, H d = none ∧ d ≠ hp.objs.size + 1 ∧
        H2 = upd (upd (upd H (hp.objs.size + 1) (exo (hp.objs.size + 1) C none)) d (exd d [(y, v)])) (hp.objs.size + 1) (exo (hp.objs.size + 1) C (some d)))
      (fun _ _ _ => False) :=
    ⟨_, v, rfl, upd_same, fun d n ne => ⟨rfl, d, by rw [upd_ne ne] at n; exact n, ne, rfl⟩⟩
  refine wpAny_call (kw_call (I.kIn _ _ lC) hbm (PySem.W.looks_findIn I.kIn iC) (fun self => PySem.W.bind_fn I.kIn self tI)
    (codeAny_mono (F0.run _ X.stack _ _ ⟨[Value.ref (hp.objs.size + 1)], [(y, u)]⟩ _ _ _ (fun _ _ _ => False)
      (hr.make C [] [(y, u)]) (hG.make C [] [(y, u)]) (I2.env0.make C [] [(y, u)]) (hb.to _ [Value.ref (hp.objs.size + 1)] u rfl) both hsp)
      fun rr s' hq => ?_))
  match rr, hq with
  | .ok (.ret z), ⟨zz, H2, os2, bare2, un2, hok2, rz, ez, d, hd, ne, eH⟩ =>
    subst ez
    subst eH
    exact ⟨rz, ⟨_, d, hp2, rfl, one, hn, hd, ne, kk, un2, hok2, os2, bare2⟩⟩
  | .error er, hq => exact False.elim hq
  | .ok .next, hq => exact False.elim hq
  | .ok .brk, hq => exact False.elim hq
  | .ok .cont, hq => exact False.elim hq
variable {x : Str} {e : Expr} {te : TE} {p pos kpos : Pos}
theorem pe_erK (D : ErK X.prog X.w X.K X.mg X.base x C y) (hr : Room 3 X.A) (hG : Gd X.A) (he : PE X e te) (hg : Gl X x := by rfl)
    (hdb : (x == ("__debug__" : Str)) = false := by decide) : PE X (.Call (.Name x p) [] [⟨some y, e, kpos⟩] pos) (tBorn C y te) := by
  have D' := D
  obtain ⟨f, fd, hm, T, iC, tI, kC, hb, F0⟩ := D'
  constructor
  intro pins s σ H Q I h
  refine wpAny_Call_Name_kw (ld_glob I hg hm ?_ hdb)
  refine PySem.W.callWith_KW0 (first := []) (h₀ := X.base) I.ok.mod.kin kC rfl (thn (kw_one he I (show te σ H _ from h)) fun us s1 hh => ?_) rfl
  obtain ⟨v, u, H1, rfl, I1, ru, v', ev, q⟩ := hh
  cases ev
  refine ⟨I1.kIn, ?_⟩
  refine thn (bornK D hr hG I1 ru) fun u2 s2 B => ?_
  obtain ⟨a, d, hp2, rfl, sz, na, nd, ne, kk, un, hok, ho, hb2⟩ := B.ex
  rw [born_eq ne] at un hok
  refine ⟨.ref a, _, ?_, rfl, q a d na nd ne⟩
  have nha : ∀ {b : Addr} {o : Obj}, s1.heap.get? b = some o → b ≠ a := fun z => Nat.ne_of_lt (Nat.lt_of_lt_of_le (Heap.lt_size z) sz)
  have upn : ∀ {b : Addr}, b ≠ a → H1 b = none → upd H1 a (exo a C none) b = none := fun hb n => by rw [upd_ne hb]; exact n
  have un0 : Un (frs X.stack) [] H1 (upd (upd H1 d (exd d [(y, v)])) a (exo a C (some d))) s1.heap s2.heap := {
    keep := fun b o z n hf hx => un.keep b o (kk b o z) (upn (nha z) n) hf hx
    slot := fun b o z n hf hx => un.slot b o (kk b o z) (upn (nha z) n) hf hx
    free := fun b o z n hx => un.free b o (kk b o z) (upn (nha z) n) hx
    there := fun b o z hx => un.there b o (kk b o z) hx
    tups := fun b xs z => un.tups b xs (by rw [upd_ne (ne_of_none z na)]; exact z)
    frzs := fun b o w z => un.frzs b o w (by rw [upd_ne (ne_of_none z na)]; exact z)
    tbls := fun b ps z => un.tbls b ps (by rw [upd_ne (ne_of_none z na)]; exact z) }
  exact I1.call' (ch := []) ho un0 hok hb2 fun b z => absurd z (by simp)
end
end Rm

set_option maxRecDepth 100000
set_option maxHeartbeats 4000000
namespace Rm
open PySem PySem.Spec L2
open PyProof.Rows hiding St

/-! ### isinstance of a tracked error, its field -/
section
variable {P : Program} {w : World} {A : Around} {E : Value → Shared → Prop} {s : Shared} {K : PySem.W.Frag} {x D : Addr} {ox od : Obj}
theorem ask_class {Q : Option Value → Shared → Prop} (T : ExcC K D) (X : K.In s.heap) (I : PySem.W.InstAt s.heap x ox D (some od))
    (q : Q (some (.ref D)) { s with toks := s.toks + 1 }) : wpAny (model P w) A (getAttr? (.ref x) "__class__") Q E s := by
  have is_cls : (PySem.W.clsIn K D).isSome = true := by
    obtain ⟨cd, z, _⟩ := PySem.W.any_some T.hd
    rw [z]
    rfl
  have found : PySem.W.findObj K D (some od) "__class__" = some (.bind (.builtin "getset_descriptor.__get__") (.builtin "object.__class__")) :=
    PySem.W.findObj_data is_cls T.ha T.hn T.ht
  obtain ⟨hp, gs, dr, tk, os⟩ := s
  have a0 := I.type (M := model P w)
  have a1 := PySem.W.looks_findIn (M := model P w) X T.hg
  have a2 := PySem.W.looks_findIn (M := model P w) X T.hk
  have a3 := PySem.W.looks_find (M := model P w) X I found
  have isB : PySem.W.Looks (model P w) hp (isInstance (.ref x) (.type "BaseException")) true := a0.andThen (PySem.W.looks_subIn X T.hs)
  have n2 : (Value.builtin "BaseException.__getattribute__" == Value.builtin "object.__getattribute__") = false := by
    decide +kernel
  have n1 : (onTheHeap (Value.ref D) && Value.builtin "BaseException.__getattribute__" == Value.builtin "object.__getattribute__") = false := by
    rw [n2]
    rfl
  have n0 : (false && onTheHeap (Value.builtin "BaseException.__getattribute__")) = false := rfl
  unfold getAttr? getAttrBy? getAttrBy
  refine wpAny_bind (wpAny_mkText (wpAny_bind (wpAny_attempt (wpAny_holding (wpAny_bind (a0.at (wpAny_bind (a1.at ?_))))))))
  show wpAny _ _ (if (onTheHeap (Value.ref D) && Value.builtin "BaseException.__getattribute__" == Value.builtin "object.__getattribute__") = true
    then _ else _) _ _ _
  rw [n1, if_neg Bool.false_ne_true]
  unfold getAttrByItsOwn hookBefore
  refine wpAny_bind ?_
  rw [if_pos (show onTheHeap (Value.ref D) = true from rfl)]
  refine a2.at ?_
  refine wpAny_bind (wpAny_attempt (wpAny_holding ?_))
  unfold callGetattribute
  rw [n0, if_neg Bool.false_ne_true]
  unfold boundAndCalled
  rw [PySem.F.excAttr_ValueError.ga.bind (.ref x)]
  refine wpAny_bind (wpAny_pure ?_)
  show wpAny _ _ (call (.builtin "BaseException.__getattribute__")
    [.ref x, .str "__class__" tk]) _ _ _
  refine wpAny_call (codeAny_call_builtin PySem.F.excAttr_ValueError.ga.plain PySem.F.entry_bexc_ga ?_)
  refine @PySem.W.check_slot (model P w) _ _ ⟨hp, gs, dr, tk + 1, os⟩
    "BaseException.__getattribute__" "BaseException" "__getattribute__" (.ref x) [.str "__class__" tk] [] _
    (by decide +kernel) (by decide +kernel) isB (PySem.F.args_bexc_ga (.ref x) (.str "__class__" tk)) ?_
  unfold Builtin.«object.__getattribute__»
  refine wpAny_bind (wpAny_of_eq (a := ((Value.ref x : Value), [Value.str "__class__" tk])) (by first | rfl | (simp only [slotArgs]; rfl)) ?_)
  refine wpAny_bind (wpAny_pure (wpAny_bind (a0.at (wpAny_bind (a3.at ?_)))))
  show wpAny _ _ (holding [Value.builtin "object.__class__"]
    (call (.builtin "getset_descriptor.__get__") [.builtin "object.__class__", .ref x, .ref D]) >>= ret) _ _ _
  refine wpAny_bind (wpAny_holding (wpAny_call (PySem.W.class_get (s := ⟨hp, gs, dr, tk + 1, os⟩) (ox := ox) (od := some od) X I T.hm ?_)))
  refine wpAny_pure ?_
  show wpAny _ _ (handedOut (.ref D)) _ _ _
  rw [PySem.W.handedOut_of (v := .ref D) rfl]
  first
    | exact wpAny_pure (wpAny_pure q)
    | exact wpAny_pure q
    | exact wpAny_pure (wpAny_bind (wpAny_pure (wpAny_pure q)))
theorem kit_err (T : ExcC K D) : PySem.W.KitX K (.ref x) (.ref D) (fun h => ∃ ox od, PySem.W.InstAt h x ox D (some od)) where
  ty := fun _ _ _ ⟨_, _, I⟩ => I.type
  it := fun _ _ X _ => by
    obtain ⟨cd, hc, _⟩ := PySem.W.any_some T.hd
    unfold PySem.W.clsIn at hc
    split at hc
    · rename_i ho
      intro A' Q' E' s' k q
      unfold isType loadHead
      exact wpAny_bind (wpAny_loadPart (k _ _ (X _ _ ho)) (wpAny_pure q))
    · cases hc
  ne := fun h tp dd its n sl X htp => by
    obtain ⟨cd, hc, _⟩ := PySem.W.any_some T.hd
    refine Bool.eq_false_iff.mpr fun q => ?_
    have e : D = tp := Value.ref.inj (beq_iff_eq.mp q)
    subst e
    unfold PySem.W.clsIn at hc
    split at hc
    · rename_i ho
      have z := (X _ _ ho).symm.trans htp
      cases z
    · cases hc
  ca := fun X ⟨_, _, I⟩ k => ask_class T X I k
end
/-- isinstance(e, c), e a tracked error with its dict -/
def rIsX (K : PySem.W.Frag) : List V → Hp → VK → Prop := fun xs H Q => ∃ (a C d : Addr) (fs : List (Str × V)) (c : V) (u : Value) (b : Bool), xs = [.ref a, c] ∧
  H a = some (exo a C (some d)) ∧ H d = some (exd d fs) ∧ ExcC K C ∧ ClsV c u ∧ PySem.W.kitOne K (.ref C) u = some b ∧ Q (.bl b) H
theorem err_at {X : Cx} {pins : List (Addr × Obj)} {σ : L2.St} {H : Hp} {s : Shared} {a C d : Addr} {fs : List (Str × V)} (I : Inv X pins σ H s)
    (ha : H a = some (exo a C (some d))) (hd : H d = some (exd d fs)) :
    ∃ ox od, PySem.W.InstAt s.heap a ox C (some od) ∧ ∀ f, RelO (fs.lookup f) ((PySem.W.lookIn f od).getD none) ∧ (PySem.W.lookIn f od).isSome = true := by
  obtain ⟨t1, hx⟩ := exo_at I.hok ha
  obtain ⟨mA, hn, hr⟩ := exd_at I.hok hd
  obtain ⟨od, ho, hl⟩ := lookIn_ns hn
  exact ⟨_, od, ⟨hx, rfl, rfl, ho⟩, fun f => by rw [hl]; exact ⟨hr f, rfl⟩⟩
theorem call_isX {X : Cx} : CallR X (.builtin "isinstance") (rIsX X.K) := by
  intro pins s σ H xs us Q I r h
  obtain ⟨a, C, d, fs, c, u, b, rfl, ha, hd, T, k, e, q⟩ := h
  obtain ⟨u1, u2, rfl, r1, r2⟩ := vals2 r
  cases r1
  have e2 := k.eq r2
  subst e2
  obtain ⟨ox, od, J, _⟩ := err_at I ha hd
  exact PySem.W.kia_one (kit_err T) I.kIn ⟨ox, od, J⟩ e (fun z => nomatch z) fun tk => ⟨.bl b, H, I.tok tk, rfl, q⟩
/-- e.n, e a tracked error -/
def tErf (C : Addr) (n : Str) (te : TE) : TE := fun σ H Q => te σ H fun x H1 => ∃ a d fs v, x = .ref a ∧ H1 a = some (exo a C (some d)) ∧ H1 d = some (exd d fs) ∧
  fs.lookup n = some v ∧ Q v H1
theorem pe_ef {X : Cx} {C : Addr} {e : Expr} {te : TE} {pos : Pos} {n : Str} (T : XfC X.K C) (hno : PySem.W.findIn X.K (.ref C) n = some none) (he : PE X e te)
    (hb : attributeBase e n X.env (eval e X.env) = eval e X.env := by rfl) : PE X (.Attribute e n pos) (tErf C n te) := by
  constructor
  intro pins s σ H Q I h
  refine attr_of hb (thn (he.run pins s σ H _ I h) fun u s1 hh => ?_)
  obtain ⟨x, H1, I1, rx, a, d, fs, v, ex, ha, hd, l, q⟩ := hh
  subst ex
  cases rx
  obtain ⟨ox, od, J, hl⟩ := err_at I1 ha hd
  obtain ⟨h1, h2⟩ := hl n
  cases eo : PySem.W.lookIn n od with
  | none => rw [eo] at h2; cases h2
  | some r =>
    rw [eo] at h1
    obtain ⟨u, hu, ru⟩ := RelO.some_of (v := v) (o := r) (by rw [← l]; exact h1)
    exact PySem.HandSPX.exc_get I1.kIn J T.ga T.gg T.exC (PySem.W.findObj_own T.hdC hno rfl (by rw [eo, hu])) (handed_of ru) ⟨v, H1, I1.tok _, ru, q⟩
/-- e.n, e a tracked error of any own class -/
def tErfG (K : PySem.W.Frag) (n : Str) (te : TE) : TE := fun σ H Q => te σ H fun x H1 => ∃ a C d fs v, x = .ref a ∧ XfC K C ∧ PySem.W.findIn K (.ref C) n = some none ∧
  H1 a = some (exo a C (some d)) ∧ H1 d = some (exd d fs) ∧ fs.lookup n = some v ∧ Q v H1
theorem pe_efG {X : Cx} {e : Expr} {te : TE} {pos : Pos} {n : Str} (he : PE X e te)
    (hb : attributeBase e n X.env (eval e X.env) = eval e X.env := by rfl) : PE X (.Attribute e n pos) (tErfG X.K n te) := by
  constructor
  intro pins s σ H Q I h
  refine attr_of hb (thn (he.run pins s σ H _ I h) fun u s1 hh => ?_)
  obtain ⟨x, H1, I1, rx, a, C, d, fs, v, ex, T, hno, ha, hd, l, q⟩ := hh
  subst ex
  cases rx
  obtain ⟨ox, od, J, hl⟩ := err_at I1 ha hd
  obtain ⟨h1, h2⟩ := hl n
  cases eo : PySem.W.lookIn n od with
  | none => rw [eo] at h2; cases h2
  | some r =>
    rw [eo] at h1
    obtain ⟨u, hu, ru⟩ := RelO.some_of (v := v) (o := r) (by rw [← l]; exact h1)
    exact PySem.HandSPX.exc_get I1.kIn J T.ga T.gg T.exC (PySem.W.findObj_own T.hdC hno rfl (by rw [eo, hu])) (handed_of ru) ⟨v, H1, I1.tok _, ru, q⟩
end Rm

set_option maxRecDepth 100000
set_option maxHeartbeats 4000000
namespace Rm
open PySem PySem.Spec L2
open PyProof.Rows hiding St

/-! ### xs.count(y), flat items -/
theorem count_flat {x : V} : ∀ {xs : List V} {us : List Value}, Vals xs us → xs.all flatV = true → us.countP (eqU x) = xs.countP fun y => eqV y x
  | _, _, .nil, _ => rfl
  | y :: xs, u :: us, .cons r t, f => by
    rw [List.all_cons, Bool.and_eq_true] at f
    rw [List.countP_cons, List.countP_cons, eqU_of r f.1, count_flat t f.2]
def rCntV (K : PySem.W.Frag) : V → List V → Hp → VK → Prop := fun x xs H Q => ∃ (p : Addr) (zs : List V) (y : V), x = .ref p ∧ xs = [y] ∧ SqL K H p zs ∧
  flatV y = true ∧ zs.all flatV = true ∧ Q (.int ((zs.countP fun z => eqV z y : Nat) : Int)) H
theorem mt_countV {X : Cx} : MtR X "list.count" (rCntV X.K) := by
  intro pins s σ H x xs v us Q I rx rxs h
  obtain ⟨p, zs, y, rfl, rfl, hs, fy, fz, q⟩ := h
  cases rx
  obtain ⟨u, rfl, ru⟩ := rxs.one
  obtain ⟨its, rv, ⟨⟨cls, dd, data, sl⟩, n, ho, hc, hdn, hd⟩, hlen⟩ := I.list hs
  simp only at hc hd
  subst hc hd
  refine call_meets PySem.F.slot_list_count ⟨_, ho, rfl⟩ PySem.F.entry_list_count (PySem.F.args_list_count_2 _ _)
    (SeqAt.list_countAt p its.toArray n dd sl u (eqU y)) ⟨ho, fun z hz => (mem_eqAt ru fy rv fz z (by simpa using hz)), ?_⟩
  refine ⟨.int ((zs.countP fun z => eqV z y : Nat) : Int), H, I.tok _, ⟨s.toks, ?_⟩, q⟩
  show Value.int ((its.toArray.toList.countP (eqU y) : Nat) : Int) s.toks = _
  rw [show its.toArray.toList = its by simp, count_flat rv fz]
/-! ### d.update(e), tracked dicts -/
def rUpd : V → List V → Hp → VK → Prop := fun x xs H Q => ∃ (p q : Addr) (kvs more : List (Key × V)), x = .ref p ∧ xs = [.ref q] ∧ H p = some (.dK kvs) ∧ H q = some (.dK more) ∧
  p ≠ q ∧ kvs.length + more.length ≤ sizeLine ∧ Q .non (upd H p (.dK (mergeK kvs more)))
theorem mt_upd {X : Cx} : MtR X "dict.update" rUpd := by
  intro pins s σ H x xs v us Q I rx rxs h
  obtain ⟨p, q, kvs, more, rfl, rfl, hp, hq, ne, hz, k⟩ := h
  cases rx
  obtain ⟨u, rfl, ru⟩ := rxs.one
  cases ru
  obtain ⟨z1, lo1, vs1, r1, d1⟩ := dk_of I.hok hp
  obtain ⟨z2, lo2, vs2, r2, d2⟩ := dk_of I.hok hq
  have mu : Mut (H p) := by rw [hp]; exact True.intro
  refine call_meetsIn PySem.F.slot_dict_update d1.typeIs PySem.F.entry_dict_update (PySem.F.args_dict_update_2 _ _)
    (meets_dict_update (mixKind X.prog X.w) p q ne lo2) ⟨vs1, vs2, d1, d2, (by rw [← r1.length, ← r2.length]; exact hz), fun h' hmm _ hs => ?_⟩
  have hl : (mergeK kvs more).length ≤ sizeLine := by
    have := length_mergeK more kvs
    omega
  obtain ⟨o', ho', _⟩ := Heap.dictOf_iff.mp hmm
  exact ⟨.non, _, I.write (x := p) (e := p) (t' := s.toks) mu (.inl rfl) (fun b o nb e => (hs.2 b nb).trans e) ⟨o', ho'⟩ (dk_new hl lo1 (r2.merge r1) hmm), rfl, k⟩
/-! ### pairs of errors -/
def ErrAt (H : Hp) (a C : Addr) (y : Str) (x : V) : Prop := ∃ d, H a = some (exo a C (some d)) ∧ H d = some (exd d [(y, x)])
def PairOk (H : Hp) (C : Addr) (y : Str) (x : V) (t : Addr) : Prop := ∃ a b, H t = some (.tup [.ref a, .ref b]) ∧ ErrAt H a C y x ∧ ErrAt H b C y x
theorem ErrAt.up {H H' : Hp} {a C : Addr} {y : Str} {x : V} (s : Same H H') (h : ErrAt H a C y x) : ErrAt H' a C y x :=
  let ⟨d, h1, h2⟩ := h
  ⟨d, s _ _ h1, s _ _ h2⟩
theorem PairOk.up {H H' : Hp} {t C : Addr} {y : Str} {x : V} (s : Same H H') (h : PairOk H C y x t) : PairOk H' C y x t :=
  let ⟨a, b, h1, h2, h3⟩ := h
  ⟨a, b, s _ _ h1, h2.up s, h3.up s⟩
theorem err_new {H : Hp} {a d C : Addr} {y : Str} {x : V} (na : H a = none) (nd : H d = none) (ne : d ≠ a) :
    Same H (upd (upd H d (exd d [(y, x)])) a (exo a C (some d))) ∧ ErrAt (upd (upd H d (exd d [(y, x)])) a (exo a C (some d))) a C y x :=
  ⟨same_two nd na ne, d, upd_same, by rw [upd_ne ne]; exact upd_same⟩
theorem tup_pair {C : Addr} {y : Str} {σ : L2.St} {i : Nat} {x : V} {H : Hp} {Q : VK} (hi : σ[i]? = some (some x))
    (h : ∀ t H1, Same H H1 → PairOk H1 C y x t → Q (.ref t) H1) :
    tTup (tCons (tBorn C y (tVar i)) (tCons (tBorn C y (tVar i)) tNil)) σ H Q := by
  refine ⟨x, hi, x, rfl, fun a d na nd ne => ⟨x, hi, x, rfl, fun b e nb nd2 ne2 => ⟨(show 2 ≤ sizeLine by decide), fun t nt => ?_⟩⟩⟩
  obtain ⟨s1, e1⟩ := err_new (C := C) (y := y) (x := x) na nd ne
  obtain ⟨s2, e2⟩ := err_new (C := C) (y := y) (x := x) nb nd2 ne2
  have s3 := same_new (o := .tup [.ref a, .ref b]) nt
  exact h t _ ((s1.trans s2).trans s3) ⟨a, b, upd_same, (e1.up s2).up s3, e2.up s3⟩
theorem cons_pair {C : Addr} {y : Str} {σ : L2.St} {i : Nat} {x : V} {H : Hp} {tr : TA} {Q : List V → Hp → Prop} (hi : σ[i]? = some (some x))
    (h : ∀ t H1, Same H H1 → PairOk H1 C y x t → tr σ H1 fun xs H2 => Q (.ref t :: xs) H2) :
    tCons (tTup (tCons (tBorn C y (tVar i)) (tCons (tBorn C y (tVar i)) tNil))) tr σ H Q := tup_pair hi h
/-- rows of pairs, one for each class -/
def Prs (H : Hp) (x : V) : List (Addr × Str) → List V → Prop
  | [], [] => True
  | c :: cs, v :: vs => (∃ t, v = .ref t ∧ PairOk H c.1 c.2 x t) ∧ Prs H x cs vs
  | _, _ => False
theorem Prs.up {H H' : Hp} {x : V} (s : Same H H') : ∀ {cs : List (Addr × Str)} {vs : List V}, Prs H x cs vs → Prs H' x cs vs
  | [], [], _ => True.intro
  | _ :: _, _ :: _, ⟨⟨t, e, p⟩, r⟩ => ⟨⟨t, e, p.up s⟩, r.up s⟩
  | [], _ :: _, h => h.elim
  | _ :: _, [], h => h.elim
theorem Prs.app {H : Hp} {x : V} : ∀ {cs ds : List (Addr × Str)} {vs us : List V}, Prs H x cs vs → Prs H x ds us → Prs H x (cs ++ ds) (vs ++ us)
  | [], _, [], _, _, h => h
  | _ :: _, _, _ :: _, _, ⟨p, r⟩, h => ⟨p, r.app h⟩
  | [], _, _ :: _, _, h, _ => h.elim
  | _ :: _, _, [], _, h, _ => h.elim
theorem Prs.len {H : Hp} {x : V} : ∀ {cs : List (Addr × Str)} {vs : List V}, Prs H x cs vs → vs.length = cs.length
  | [], [], _ => rfl
  | _ :: _, _ :: _, ⟨_, r⟩ => congrArg Nat.succ r.len
  | [], _ :: _, h => h.elim
  | _ :: _, [], h => h.elim
theorem Prs.get {H : Hp} {x : V} : ∀ {cs : List (Addr × Str)} {vs : List V} {i : Nat} {v : V}, Prs H x cs vs → vs[i]? = some v →
    ∃ c t, cs[i]? = some c ∧ v = .ref t ∧ PairOk H c.1 c.2 x t
  | _ :: _, _ :: _, 0, _, ⟨⟨t, e, p⟩, _⟩, h => by
    simp at h; subst h; exact ⟨_, t, rfl, e, p⟩
  | _ :: _, _ :: _, i + 1, _, ⟨_, r⟩, h => by
    simp at h
    simpa using r.get h
  | [], [], _, _, _, h => by simp at h
  | [], _ :: _, _, _, h, _ => h.elim
  | _ :: _, [], _, _, h, _ => h.elim
/-- a row of the law: two errors and what they keep -/
def RowOk (H : Hp) (C : Addr) (y : Str) (x : V) (t : Addr) : Prop := ∃ a b, H t = some (.tup [.ref a, .ref b, x, x]) ∧ ErrAt H a C y x ∧ ErrAt H b C y x
def Rws (H : Hp) (x : V) (cs : List (Addr × Str)) (vs : List V) : Prop := vs.length = cs.length ∧
  ∀ (i : Nat) (c : Addr × Str), cs[i]? = some c → ∃ t, vs[i]? = some (.ref t) ∧ RowOk H c.1 c.2 x t
theorem RowOk.up {H H' : Hp} {t C : Addr} {y : Str} {x : V} (s : Same H H') (h : RowOk H C y x t) : RowOk H' C y x t :=
  let ⟨a, b, h1, h2, h3⟩ := h
  ⟨a, b, s _ _ h1, h2.up s, h3.up s⟩
def spRows (cs : List (Addr × Str)) : Sp := fun vs H Q _ => ∃ x, vs = [x] ∧ ∀ p H' rows, Same H H' → H' p = some (.lst rows) → Rws H' x cs rows → Q (.ref p) H'
theorem ErrAt.upd {H : Hp} {p a C : Addr} {y : Str} {x : V} {xs : List V} {o : HO} (hp : H p = some (.lst xs)) (h : ErrAt H a C y x) : ErrAt (upd H p o) a C y x := by
  obtain ⟨d, h1, h2⟩ := h
  have n1 : a ≠ p := fun e => by
    rw [e, hp] at h1
    have h1' : HO.lst xs = HO.ext _ := Option.some.inj h1
    cases h1'
  have n2 : d ≠ p := fun e => by
    rw [e, hp] at h2
    have h2' : HO.lst xs = HO.ext _ := Option.some.inj h2
    cases h2'
  exact ⟨d, by rw [upd_ne n1]; exact h1, by rw [upd_ne n2]; exact h2⟩
theorem PairOk.upd {H : Hp} {p t C : Addr} {y : Str} {x : V} {xs : List V} {o : HO} (hp : H p = some (.lst xs)) (h : PairOk H C y x t) : PairOk (upd H p o) C y x t := by
  obtain ⟨a, b, h1, h2, h3⟩ := h
  have n1 : t ≠ p := fun e => by
    rw [e, hp] at h1
    cases h1
  exact ⟨a, b, by rw [upd_ne n1]; exact h1, h2.upd hp, h3.upd hp⟩
theorem Prs.upd {H : Hp} {p : Addr} {x : V} {xs : List V} {o : HO} (hp : H p = some (.lst xs)) : ∀ {cs : List (Addr × Str)} {vs : List V}, Prs H x cs vs → Prs (upd H p o) x cs vs
  | [], [], _ => True.intro
  | _ :: _, _ :: _, ⟨⟨t, e, q⟩, r⟩ => ⟨⟨t, e, q.upd hp⟩, r.upd hp⟩
  | [], _ :: _, h => h.elim
  | _ :: _, [], h => h.elim
end Rm

set_option maxRecDepth 100000
set_option maxHeartbeats 4000000
namespace Rm
open PySem PySem.Spec L2
open PyProof.Rows hiding St

/-! ### rows of errors, one after the other -/
/-- rows, one for each class -/
def Rwl (H : Hp) (x : V) : List (Addr × Str) → List V → Prop
  | [], [] => True
  | c :: cs, v :: vs => (∃ t, v = .ref t ∧ RowOk H c.1 c.2 x t) ∧ Rwl H x cs vs
  | _, _ => False
theorem Rwl.up {H H' : Hp} {x : V} (s : Same H H') : ∀ {cs : List (Addr × Str)} {vs : List V}, Rwl H x cs vs → Rwl H' x cs vs
  | [], [], _ => True.intro
  | _ :: _, _ :: _, ⟨⟨t, e, p⟩, r⟩ => ⟨⟨t, e, p.up s⟩, r.up s⟩
  | [], _ :: _, h => h.elim
  | _ :: _, [], h => h.elim
theorem Rwl.app {H : Hp} {x : V} : ∀ {cs ds : List (Addr × Str)} {vs us : List V}, Rwl H x cs vs → Rwl H x ds us → Rwl H x (cs ++ ds) (vs ++ us)
  | [], _, [], _, _, h => h
  | _ :: _, _, _ :: _, _, ⟨p, r⟩, h => ⟨p, r.app h⟩
  | [], _, _ :: _, _, h, _ => h.elim
  | _ :: _, _, [], _, h, _ => h.elim
theorem Rwl.len {H : Hp} {x : V} : ∀ {cs : List (Addr × Str)} {vs : List V}, Rwl H x cs vs → vs.length = cs.length
  | [], [], _ => rfl
  | _ :: _, _ :: _, ⟨_, r⟩ => congrArg Nat.succ r.len
  | [], _ :: _, h => h.elim
  | _ :: _, [], h => h.elim
theorem Rwl.get {H : Hp} {x : V} : ∀ {cs : List (Addr × Str)} {vs : List V} {i : Nat} {v : V}, Rwl H x cs vs → vs[i]? = some v →
    ∃ c t, cs[i]? = some c ∧ v = .ref t ∧ RowOk H c.1 c.2 x t
  | _ :: _, _ :: _, 0, _, ⟨⟨t, e, p⟩, _⟩, h => by
    simp at h; subst h; exact ⟨_, t, rfl, e, p⟩
  | _ :: _, _ :: _, i + 1, _, ⟨_, r⟩, h => by
    simp at h
    simpa using r.get h
  | [], [], _, _, _, h => by simp at h
  | [], _ :: _, _, _, h, _ => h.elim
  | _ :: _, [], _, _, h, _ => h.elim
theorem Rwl.of {H : Hp} {x : V} : ∀ {cs : List (Addr × Str)} {vs : List V}, Rws H x cs vs → Rwl H x cs vs
  | [], [], _ => True.intro
  | [], _ :: _, h => by cases h.1
  | _ :: _, [], h => by cases h.1
  | c :: cs, v :: vs, h => by
    obtain ⟨t, e, p⟩ := h.2 0 c rfl
    simp at e
    refine ⟨⟨t, e, p⟩, Rwl.of ⟨by simpa using h.1, fun i c' hc => ?_⟩⟩
    obtain ⟨t', e', p'⟩ := h.2 (i + 1) c' (by simpa using hc)
    exact ⟨t', by simpa using e', p'⟩
theorem Rwl.ws {H : Hp} {x : V} : ∀ {cs : List (Addr × Str)} {vs : List V}, Rwl H x cs vs → Rws H x cs vs
  | [], [], _ => ⟨rfl, fun i c h => by simp at h⟩
  | [], _ :: _, h => h.elim
  | _ :: _, [], h => h.elim
  | c :: cs, v :: vs, ⟨⟨t, e, p⟩, r⟩ => by
    have q := r.ws
    refine ⟨by simpa using q.1, fun i c' hc => ?_⟩
    cases i with
    | zero => simp at hc; subst hc; exact ⟨t, by simpa using e, p⟩
    | succ i =>
      obtain ⟨t', e', p'⟩ := q.2 i c' (by simpa using hc)
      exact ⟨t', by simpa using e', p'⟩
/-- neither a tuple nor an error -/
def SoftO (u : HO) : Prop := (∀ xs, u ≠ HO.tup xs) ∧ (∀ f, u ≠ HO.ext f)
theorem soft_lst {xs : List V} : SoftO (HO.lst xs) := ⟨fun _ e => (by cases e), fun _ e => (by cases e)⟩
theorem soft_dK {xs : List (Key × V)} : SoftO (HO.dK xs) := ⟨fun _ e => (by cases e), fun _ e => (by cases e)⟩
theorem ErrAt.updS {H : Hp} {p a C : Addr} {y : Str} {x : V} {u o : HO} (hp : H p = some u) (su : SoftO u) (h : ErrAt H a C y x) : ErrAt (L2.upd H p o) a C y x := by
  obtain ⟨d, h1, h2⟩ := h
  have n1 : a ≠ p := fun e => by
    rw [e, hp] at h1
    exact su.2 _ (Option.some.inj h1)
  have n2 : d ≠ p := fun e => by
    rw [e, hp] at h2
    exact su.2 _ (Option.some.inj h2)
  exact ⟨d, by rw [upd_ne n1]; exact h1, by rw [upd_ne n2]; exact h2⟩
theorem RowOk.updS {H : Hp} {p t C : Addr} {y : Str} {x : V} {u o : HO} (hp : H p = some u) (su : SoftO u) (h : RowOk H C y x t) : RowOk (L2.upd H p o) C y x t := by
  obtain ⟨a, b, h1, h2, h3⟩ := h
  have n1 : t ≠ p := fun e => by
    rw [e, hp] at h1
    exact su.1 _ (Option.some.inj h1)
  exact ⟨a, b, by rw [upd_ne n1]; exact h1, h2.updS hp su, h3.updS hp su⟩
theorem Rwl.updS {H : Hp} {p : Addr} {x : V} {u o : HO} (hp : H p = some u) (su : SoftO u) : ∀ {cs : List (Addr × Str)} {vs : List V}, Rwl H x cs vs → Rwl (L2.upd H p o) x cs vs
  | [], [], _ => True.intro
  | _ :: _, _ :: _, ⟨⟨t, e, q⟩, r⟩ => ⟨⟨t, e, q.updS hp su⟩, r.updS hp su⟩
  | [], _ :: _, h => h.elim
  | _ :: _, [], h => h.elim

section
variable {K : PySem.W.Frag} {C : Addr} {y : Str} {σ : L2.St} {i j : Nat} {x : V} {H : Hp}
/-- two errors, each a name's -/
theorem par_pair {k : Nat} {D : Ends} (hk : σ[k]? = some (some x))
    (h : ∀ a b H1, Same H H1 → ErrAt H1 a C y x → ErrAt H1 b C y x → D.nx ((σ.set i (some (.ref a))).set j (some (.ref b))) H1) :
    tPar i j (tCons (tBorn C y (tVar k)) (tCons (tBorn C y (tVar k)) tNil)) D σ H := by
  refine ⟨x, hk, x, rfl, fun a d na nd ne => ⟨x, hk, x, rfl, fun b e nb nd2 ne2 => ⟨_, _, rfl, ?_⟩⟩⟩
  obtain ⟨s1, e1⟩ := err_new (C := C) (y := y) (x := x) na nd ne
  obtain ⟨s2, e2⟩ := err_new (C := C) (y := y) (x := x) nb nd2 ne2
  exact h a b _ (s1.trans s2) (e1.up s2) e2
/-- the row of two errors -/
theorem row4 {a b : Addr} {Q : VK} (hX : XfC K C) (hno : PySem.W.findIn K (.ref C) y = some none) (hi : σ[i]? = some (some (.ref a))) (hj : σ[j]? = some (some (.ref b)))
    (ea : ErrAt H a C y x) (eb : ErrAt H b C y x) (h : ∀ t H1, Same H H1 → RowOk H1 C y x t → Q (.ref t) H1) :
    tTup (tCons (tVar i) (tCons (tVar j) (tCons (tErfG K y (tVar i)) (tCons (tErfG K y (tVar j)) tNil)))) σ H Q := by
  have ea' := ea
  have eb' := eb
  obtain ⟨da, ha, hda⟩ := ea'
  obtain ⟨db, hb, hdb⟩ := eb'
  refine ⟨_, hi, _, hj, _, hi, a, C, da, _, x, rfl, hX, hno, ha, hda, by simp, _, hj, b, C, db, _, x, rfl, hX, hno, hb, hdb, by simp, (show 4 ≤ sizeLine by decide), fun r nr => ?_⟩
  have z := same_new (o := .tup [.ref a, .ref b, x, x]) nr
  exact h r _ z ⟨a, b, upd_same, ea.up z, eb.up z⟩
theorem cons_row4 {a b : Addr} {tr : TA} {Q : List V → Hp → Prop} (hX : XfC K C) (hno : PySem.W.findIn K (.ref C) y = some none) (hi : σ[i]? = some (some (.ref a))) (hj : σ[j]? = some (some (.ref b)))
    (ea : ErrAt H a C y x) (eb : ErrAt H b C y x) (h : ∀ t H1, Same H H1 → RowOk H1 C y x t → tr σ H1 fun xs H2 => Q (.ref t :: xs) H2) :
    tCons (tTup (tCons (tVar i) (tCons (tVar j) (tCons (tErfG K y (tVar i)) (tCons (tErfG K y (tVar j)) tNil))))) tr σ H Q := row4 hX hno hi hj ea eb h
end
end Rm

set_option maxRecDepth 100000
set_option maxHeartbeats 4000000
namespace Rm
open PySem PySem.Spec L2
open PyProof.Rows hiding St
open SeqAt MeetsSeq

/-! ### a text beside anything -/
theorem str_off_dict (b : Str) (u : Tok) (l : Addr) (c : Value) (es : Array DictEntry) (n : Nat) (dd : Option Addr) (sl : Array (Option Value)) :
    Meets (Builtin.«str.__eq__» ⟨[.str b u, .ref l], []⟩) (fun _ R s => s.heap.get? l = some { cls := c, dict := dd, data := .dict es n, slots := sl } ∧ R (.ok (.ret .notImplemented)) s) :=
  .of_wp fun prog w A R s h => by obtain ⟨hp, g, d, tk, os⟩ := s; obtain ⟨hl, h⟩ := h; wp_walk using AutoSeq1.wpAny_loadPart' hl, wpAny_load hl; exact ⟨_, rfl, h⟩
theorem dict_off_str (l : Addr) (es : Array DictEntry) (n : Nat) (dd : Option Addr) (sl : Array (Option Value)) (b : Str) (u : Tok) :
    Meets (Builtin.«dict.__eq__» ⟨[.ref l, .str b u], []⟩) (fun _ R s => s.heap.get? l = some { cls := .type "dict", dict := dd, data := .dict es n, slots := sl } ∧ R (.ok (.ret .notImplemented)) s) :=
  .of_wp fun prog w A R s h => by obtain ⟨hp, g, d, tk, os⟩ := s; obtain ⟨hl, h⟩ := h; have f1 := F.sub_str_dict; wp_walk using AutoSeq1.wpAny_loadPart' hl; exact ⟨_, rfl, h⟩
section
variable {A : Around} {s : Shared}
theorem rc_str_dict {l : Addr} {o : Obj} {es : Array DictEntry} {n : Nat} (b : Str) (u : Tok) (ho : s.heap.get? l = some o) (hc : o.cls = .type "dict") (hd : o.data = .dict es n) (hu : A.units < cLine) :
    RcAt A s (.str b u) (.ref l) false := fun prog w E Q h => by
  obtain ⟨cls, dd, data, sl⟩ := o
  simp only at hc hd
  subst hc hd
  exact rc_eq_decline_or (k := false) (typeIs_str s b u) ⟨_, ho, rfl⟩ (by decide) F.sub_dict_str F.slot_str_eq F.slot_dict_eq_refl
    (fun _ hq => call_meets F.slot_str_eq (typeIs_str s b u) F.entry_str_eq (F.args_str_eq_2 _ _) (str_off_dict b u l (.type "dict") es n dd sl) ⟨ho, hq⟩)
    (fun _ hq => call_meets F.slot_dict_eq_refl ⟨_, ho, rfl⟩ F.entry_dict_eq (F.args_dict_eq_2 _ _) (dict_off_str l es n dd sl b u) ⟨ho, hq⟩)
    (fun _ hq => wpAny_of_eq (rfl : isSame (.str b u) (.ref l) = pure false) hq) (.inr hu) h
theorem rc_dict_str {l : Addr} {o : Obj} {es : Array DictEntry} {n : Nat} (b : Str) (u : Tok) (ho : s.heap.get? l = some o) (hc : o.cls = .type "dict") (hd : o.data = .dict es n) (hu : A.units < cLine) :
    RcAt A s (.ref l) (.str b u) false := fun prog w E Q h => by
  obtain ⟨cls, dd, data, sl⟩ := o
  simp only at hc hd
  subst hc hd
  exact rc_eq_decline_or (k := false) ⟨_, ho, rfl⟩ (typeIs_str s b u) (by decide) F.sub_str_dict F.slot_dict_eq F.slot_str_eq_refl
    (fun _ hq => call_meets F.slot_dict_eq ⟨_, ho, rfl⟩ F.entry_dict_eq (F.args_dict_eq_2 _ _) (dict_off_str l es n dd sl b u) ⟨ho, hq⟩)
    (fun _ hq => call_meets F.slot_str_eq_refl (typeIs_str s b u) F.entry_str_eq (F.args_str_eq_2 _ _) (str_off_dict b u l (.type "dict") es n dd sl) ⟨ho, hq⟩)
    (fun _ hq => wpAny_of_eq (rfl : isSame (.ref l) (.str b u) = pure false) hq) (.inr hu) h
theorem eqAt_str_dict {l : Addr} {o : Obj} {es : Array DictEntry} {n : Nat} (b : Str) (u : Tok) (ho : s.heap.get? l = some o) (hc : o.cls = .type "dict") (hd : o.data = .dict es n) (hu : A.units < cLine) :
    EqAt A s (.str b u) (.ref l) false := fun prog w E Q h => by
  unfold eqBool
  refine wpAny_holding ?_
  refine wpAny_ite_split (fun hab => absurd (eq_of_beq hab) nofun) (fun _ => ?_)
  exact wpAny_bind (rc_str_dict b u ho hc hd hu prog w E _ (wpAny_truthy_bool h))
/-- a text and what is read: equal just if it is this text -/
def isT (z : Str) : PyData → Bool
  | .str y => decide (y = z)
  | _ => false
theorem eqAt_strD {d : PyData} {as : List Addr} {v : Value} (z : Str) (t : Tok) (r : Reads s.heap v d as) (hu : A.units < cLine) : EqAt A s (.str z t) v (isT z d) := by
  cases r with
  | none => exact EqAt.str_none z t
  | bool y => exact EqAt.str_bool z t y
  | int y u => exact EqAt.str_int z t y u
  | str y u =>
    have e := EqAt.str_str (A := A) (s := s) z t y u
    have q : isT z (.str y) = (z == y) := by
      unfold isT
      rw [Bool.eq_iff_iff]
      simp
      exact eq_comm
    rw [q]
    exact e
  | list k1 k2 k3 k4 => exact EqAt.str_list z t ⟨_, k1, k2, _, k3⟩ hu
  | tuple k1 k2 k3 k4 => exact EqAt.str_tuple z t ⟨_, k1, k2, _, k3⟩ hu
  | dict k1 k2 k3 k4 k5 => exact eqAt_str_dict z t k1 k2 k3 hu
end
end Rm

set_option maxRecDepth 100000
set_option maxHeartbeats 4000000
namespace Rm
open PySem PySem.Spec L2
open PyProof.Rows hiding St

/-! ### all that is asked of an own error class: x names the class at C below the one at M, whose __init__ stores y -/
structure EF (P : Program) (w : World) (K : PySem.W.Frag) (mg : Str → Option Value) (C M : Addr) (x y : Str) : Prop where
  g : mg x = some (.ref C)
  er : ∀ base, Er P w K mg base x C y
  erk : ∀ base, ErK P w K mg base x C y
  xf : XfC K C
  no : PySem.W.findIn K (.ref C) y = some none
  ex : ExcC K C
  cl : ∃ nm q N bs tl sn sub ab col dd k0 k1 k2 k3 k5, K.lookup C = some (excClassObj nm q C N bs (.ref M :: tl) true sn sub ab col dd k0 k1 k2 k3 k5 "ValueError.__new__") ∧ allTy tl = true
  ty : PySem.W.typeIn K (.ref C) = some (.type "type")
  em : PySem.W.exmOne K (.ref C) (.ref C) = some true
  ve : PySem.W.subIn K (.ref C) (.type "ValueError") = some true
theorem EF.mro {P : Program} {w : World} {K : PySem.W.Frag} {mg : Str → Option Value} {C M D : Addr} {x y : Str} (e : EF P w K mg C M x y) :
    PySem.W.subIn K (.ref C) (.ref D) = some (decide (D = C) || decide (D = M)) := by
  obtain ⟨nm, q, N, bs, tl, sn, sub, ab, col, dd, k0, k1, k2, k3, k5, l, a⟩ := e.cl
  show PySem.W.mroIn K C (.ref D) = _
  have h : PySem.W.clsIn K C = some { name := nm, bases := bs, mro := .ref C :: .ref M :: tl, ns := N, qualname := q, hasDict := true, slotNames := sn, subclasses := sub, abstract := ab, collection := col, hasDel := false } := by
    unfold PySem.W.clsIn
    rw [l]
  unfold PySem.W.mroIn
  rw [h]
  simp only [Option.bind_some, List.isEmpty_cons, Bool.false_eq_true, if_false, List.contains_cons, allTy_no a, Bool.or_false]
  congr 1
  have b : ∀ a b : Addr, ((Value.ref a) == Value.ref b) = decide (a = b) := fun a b => by
    by_cases e : a = b
    · subst e; simp
    · rw [decide_eq_false e]
      exact Bool.eq_false_iff.mpr fun q => e (Value.ref.inj (beq_iff_eq.mp q))
  rw [b, b]
theorem EF.kit {P : Program} {w : World} {K : PySem.W.Frag} {mg : Str → Option Value} {C M D M' : Addr} {x y x' y' : Str} (e : EF P w K mg C M x y) (e' : EF P w K mg D M' x' y') (hM : D ≠ M) :
    PySem.W.kitOne K (.ref C) (.ref D) = some (decide (D = C)) := by
  have q : ∀ a b : Addr, ((Value.ref a) == Value.ref b) = decide (a = b) := fun a b => by
    by_cases e : a = b
    · subst e; simp
    · rw [decide_eq_false e]
      exact Bool.eq_false_iff.mpr fun q => e (Value.ref.inj (beq_iff_eq.mp q))
  unfold PySem.W.kitOne
  rw [q]
  by_cases h : C = D
  · subst h
    simp
  · rw [decide_eq_false h, if_neg (by simp)]
    obtain ⟨nm, q', N, bs, tl, sn, sub, ab, col, dd, k0, k1, k2, k3, k5, l, a⟩ := e'.cl
    unfold PySem.W.kitCls
    dsimp only
    have h1 : (PySem.W.clsIn K D).isSome = true := by
      unfold PySem.W.clsIn
      rw [l]
      rfl
    have h2 : PySem.W.typeIn K (.ref D) = some (.type "type") := e'.ty
    rw [if_pos (by rw [h1, h2]; simp), e.mro, decide_eq_false hM, Bool.or_false]
theorem ef_mk {P : Program} {w : World} {K : PySem.W.Frag} {h : Heap} {mg : Str → Option Value} {C M : Addr} {x y qual : Str} {st : Stmt} (X : K.In h) (G : h.Ns mainGlobals mg)
    {nm q : Str} {N : Addr} {bs tl : List Value} {sn : List Str} {sub : List Value} {ab : Bool} {col : Option Bool} {dd : Option Addr} {m0 m1 m2 m3 m5 : Option Value}
    (e_g : PySem.W.nsIn K mainGlobals x = some (some (.ref C)))
    (e_l : K.lookup C = some (excClassObj nm q C N bs (.ref M :: tl) true sn sub ab col dd m0 m1 m2 m3 m5 "ValueError.__new__")) (e_v : PySem.HandSPX.refsVE (.ref M :: tl) = true) (e_t : allTy tl = true)
    (e_sa : PySem.W.findIn K (.ref C) "__setattr__" = some (some (.builtin "object.__setattr__")))
    (e_ga : PySem.W.findIn K (.ref C) "__getattribute__" = some (some (.builtin "BaseException.__getattribute__"))) (e_gg : PySem.W.findIn K (.ref C) "__getattr__" = some none)
    (e_ex : PySem.W.subIn K (.ref C) (.type "BaseException") = some true) (e_ty : PySem.W.typeIn K (.ref C) = some (.type "type")) (e_k : PySem.W.keepIn K (.ref C) = true)
    (e_hd : PySem.W.hasDictIn K C = true) (e_no : PySem.W.findIn K (.ref C) y = some none) (e_sub : PySem.W.subIn K (.ref C) (.type "ValueError") = some true)
    (e_self : PySem.W.mroIn K C (.ref C) = some true)
    (e_sup : PySem.W.ks_superIn K C C "__init__" = some (some (.builtin "ValueError.__init__"))) (e_any : PySem.W.nsIn K cStatics "thirdparty.any" = some none)
    (e_ha : PySem.W.findIn K (.ref C) "__class__" = some (some (.builtin "object.__class__")))
    (e_hn : PySem.W.specialIn K (.builtin "object.__class__") "__get__" = some (some (.builtin "getset_descriptor.__get__"))) (e_ht : PySem.W.takesIn K (.builtin "object.__class__") = some true)
    (e_hm : PySem.W.mroIn K C (.type "object") = some true)
    {ef cda cc : Addr} {oc dV kV doc pm ct ccl cl : Value} {od an cdd cld : Option Addr} {osl ccs csl : Array (Option Value)} {vs : Array Value} {file : Str} {tf : Tok}
    (e_i : PySem.W.findIn K (.ref C) "__init__" = some (some (.ref ef))) (e_it : PySem.W.typeIn K (.ref ef) = some (.type "function"))
    (e_f : K.lookup ef = some ⟨oc, od, .func (PySem.W.ksFn "__init__" qual (defArgs st) (defBody st) (defScope st) dV kV doc pm an (.ref cda) ct cc), osl⟩)
    (e_c : PySem.W.codeIn K (.ref cda) qual = true) (e_cd : K.lookup cda = some ⟨ccl, cdd, .fields vs, ccs⟩) (e_fi : vs[2]? = some (.str file tf)) (e_pf : ((P.main.file : Str) == file) = true)
    (e_cc : K.lookup cc = some ⟨cl, cld, .cell (some (.ref C)), csl⟩) (e_df : dV = .none)
    (htop : (P.main.scope.names.lookup ("super" : Str)).isSome = false) (n_super : PySem.W.nsIn K mainGlobals "super" = some none)
    (hb1 : ∀ us : List Value, us.length = 2 → Binds K (PySem.W.ksFn "__init__" qual (defArgs st) (defBody st) (defScope st) .none kV doc pm an (.ref cda) ct cc) ["self", y] [])
    (hb2 : Kw1 (PySem.W.ksFn "__init__" qual (defArgs st) (defBody st) (defScope st) .none kV doc pm an (.ref cda) ct cc) ["self", y] 1 y)
    (hfn : ∀ base, mg "super" = none → ErrC P K C ef qual y (defArgs st) (defBody st) (defScope st) (PySem.W.ksFn "__init__" qual (defArgs st) (defBody st) (defScope st) .none kV doc pm an (.ref cda) ct cc) →
      FnG P w K mg base CX0 2 ef (PySem.W.ksFn "__init__" qual (defArgs st) (defBody st) (defScope st) .none kV doc pm an (.ref cda) ct cc) ["self", y] (spErr K C y)) :
    EF P w K mg C M x y := by
  subst e_df
  have ox : OexC K C := ⟨⟨nm, q, N, bs, _, sn, sub, ab, col, dd, m0, m1, m2, m3, m5, e_l, e_v⟩, e_sa, e_ex, e_ty, e_k⟩
  have T : ErrC P K C ef qual y (defArgs st) (defBody st) (defScope st) _ :=
    ⟨ox, ⟨oc, od, _, kV, doc, pm, an, cda, cc, ct, osl, ccl, cl, cdd, cld, vs, ccs, csl, file, tf, rfl, e_f, e_c, e_cd, e_fi, e_pf, e_cc⟩, e_any, e_sup, e_sub, e_self, e_no, e_i, e_it⟩
  have gC : mg x = some (.ref C) := PySem.W.mg_of X G e_g
  have ns : mg "super" = none := PySem.W.mg_none_of X G n_super
  exact ⟨gC, fun base => ⟨ef, _, gC, ox, e_i, e_it, e_k, hb1 [.none, .none] rfl, hfn base ns T⟩, fun base => ⟨ef, _, gC, ox, e_i, e_it, e_k, hb2, hfn base ns T⟩,
    ⟨e_ga, e_gg, e_ex, e_hd⟩, e_no, ⟨e_ga, e_gg, e_ex, e_hd, e_ha, e_hn, e_ht, e_hm⟩, ⟨nm, q, N, bs, tl, sn, sub, ab, col, dd, m0, m1, m2, m3, m5, e_l, e_t⟩, e_ty, em_self e_ex e_hd e_ty e_self, e_sub⟩
end Rm

set_option maxRecDepth 100000
set_option maxHeartbeats 4000000
namespace Rm
open PySem PySem.Spec L2
open PyProof.Rows hiding St
open SeqAt MeetsSeq

/-! ### data of any kind beside a text; in a tuple of texts; is True -/
section
variable {A : Around} {s : Shared}
theorem rcAt_Dstr {d : PyData} {as : List Addr} {v : Value} (z : Str) (t : Tok) (r : Reads s.heap v d as) (hu : A.units < cLine) : RcAt A s v (.str z t) (isT z d) := by
  cases r with
  | none => exact RcAt.none_str z t
  | bool y => exact RcAt.bool_str y z t
  | int y u => exact RcAt.int_str y u z t
  | str y u =>
    have e := RcAt.str_str (A := A) (s := s) y u z t
    have q : isT z (.str y) = (y == z) := by
      unfold isT
      rw [Bool.eq_iff_iff]
      simp
    rw [q]
    exact e
  | list k1 k2 k3 k4 => exact RcAt.list_str z t ⟨_, k1, k2, _, k3⟩ hu
  | tuple k1 k2 k3 k4 => exact RcAt.tuple_str z t ⟨_, k1, k2, _, k3⟩ hu
  | dict k1 k2 k3 k4 k5 => exact rc_dict_str z t k1 k2 k3 hu
end
section
variable {X : Cx}
/-- x == a text, x any small data -/
def rEqS (K : PySem.W.Frag) : R2 := fun x y H Q => ∃ d z, Dx K H x d ∧ y = .str z ∧ Sm d ∧ Q (.bl (isT z d)) H
theorem op_eqS (hu : X.A.units + 64 < cLine) : OpR X (compareOp .Eq) (rEqS X.K) := by
  intro pins s σ H x y v u Q I rx ry h
  obtain ⟨d, z, hd, rfl, sm, q⟩ := h
  obtain ⟨t, rfl⟩ := ry
  obtain ⟨⟨as, r⟩, _⟩ := Dx.shw I d x v hd rx sm.sh sm.len
  exact rcAt_Dstr z t r (by omega) X.prog X.w _ _ ⟨.bl _, H, I, rfl, q⟩
/-- x in a tuple of texts, x any small data -/
def rInS (K : PySem.W.Frag) : R2 := fun x y H Q => ∃ (d : PyData) (p : Addr) (zs : List Str), Dx K H x d ∧ y = .ref p ∧ SqT K H p (zs.map V.str) ∧ Sm d ∧ Q (.bl (zs.any fun z => isT z d)) H
theorem vals_strs {us : List Value} : ∀ {zs : List Str}, Vals (zs.map V.str) us → ∀ v ∈ us, ∃ z ∈ zs, ∃ t, v = .str z t := by
  intro zs
  induction zs generalizing us with
  | nil => intro r; cases r; intro v h; cases h
  | cons z zs ih =>
    intro r
    rw [List.map_cons] at r
    cases r with
    | cons r1 r2 =>
      intro v h
      rcases List.mem_cons.mp h with h | h
      · obtain ⟨t, e⟩ := r1
        subst h
        exact ⟨z, .head _, t, e⟩
      · obtain ⟨z', m, q⟩ := ih r2 v h
        exact ⟨z', .tail _ m, q⟩
theorem op_inS (hu : X.A.units + 65 < cLine) : OpR X (compareOp .In) (rInS X.K) := by
  intro pins s σ H x y v u Q I rx ry h
  obtain ⟨d, p, zs, hd, rfl, hp, sm, q⟩ := h
  cases ry
  obtain ⟨⟨as, r⟩, _⟩ := Dx.shw I d x v hd rx sm.sh sm.len
  obtain ⟨its, rv, ⟨o, ho, hc, n, hdt⟩, hlen⟩ := I.tuple hp
  let e : Value → Bool := fun y => match y with
    | .str z _ => isT z d
    | _ => false
  refine in_tupleAt e ⟨_, ho, hc, _, hdt⟩ (fun y hy => ?_) ?_
  · obtain ⟨z, _, t, rfl⟩ := vals_strs rv y (by simpa using hy)
    exact eqAt_strD z t r (show X.A.in1.units < cLine by show X.A.units + 1 < cLine; omega)
  · have hq : its.toArray.any e = zs.any fun z => isT z d := by
      rw [← Array.any_toList]
      simp only [List.toList_toArray]
      clear hdt ho hc hp q hlen
      induction zs generalizing its with
      | nil => cases rv; rfl
      | cons z zs ih =>
        rw [List.map_cons] at rv
        cases rv with
        | cons r1 r2 =>
          obtain ⟨t, rfl⟩ := r1
          rw [List.any_cons, List.any_cons, ih _ r2]
    rw [hq]
    exact ⟨.bl _, H, I, rfl, q⟩
theorem op_isB : OpR X (compareOp .Is) (fun x y H Q => ∃ a b, x = .bl a ∧ y = .bl b ∧ Q (.bl (decide (a = b))) H) := by
  intro pins s σ H x y v u Q I rx ry h
  obtain ⟨a, b, rfl, rfl, q⟩ := h
  cases rx
  cases ry
  show wpAny _ _ ((isSame (Value.bool a) (.bool b)) >>= fun z => pure (Value.bool z)) _ _ s
  refine wpAny_bind (wpAny_of_eq (a := decide (a = b)) (by cases a <;> cases b <;> rfl) (wpAny_pure (fin_bl I q rfl)))
end
/-! ### a def called by one keyword -/
def CeK (P : Program) (w : World) (K : PySem.W.Frag) (mg : Str → Option Value) (base : Heap) (CX : CXT)
    (k : Nat) (x : Str) (ps : List Str) (y : Str) (sp : Sp) : Prop :=
  ∃ f fd, mg x = some (.ref f) ∧ PySem.W.keepIn K (.ref f) = true ∧ Kw1 fd ps 0 y ∧ FnG P w K mg base CX k f fd ps sp
theorem pe_ceK {X : Cx} {CX : CXT} {k : Nat} {x y : Str} {ps : List Str} {sp : Sp} {E : XK} {e : Expr} {te : TE} {p pos kpos : Pos}
    (D : CeK X.prog X.w X.K X.mg X.base CX k x ps y sp) (hr : Room k X.A) (hG : Gd X.A) (he : PE X e te) (hx : Passes CX X E) (hg : Gl X x := by rfl)
    (hdb : (x == ("__debug__" : Str)) = false := by decide) : PE X (.Call (.Name x p) [] [⟨some y, e, kpos⟩] pos) (tCall sp [] E (tCons te tNil)) := by
  obtain ⟨f, fd, hm, hk, hb, F⟩ := D
  constructor
  intro pins s σ H Q I h
  refine wpAny_Call_Name_kw (ld_glob I hg hm ?_ hdb)
  refine PySem.W.callWith_KW0 (first := []) (h₀ := X.base) I.ok.mod.kin hk rfl (thn (kw_one he I (show te σ H _ from h)) fun us s1 hh => ?_) rfl
  obtain ⟨v, u, H1, rfl, I1, ru, q⟩ := hh
  exact ⟨I1.kIn, goes1 (us := []) (vs := []) F hr hG hb hx I1 .nil ru rfl q⟩
/-! ### isinstance of data: which built-in kinds -/
def isKd (T : String) (d : PyData) : Bool := (tyD d == T) || (T == "int" && tyD d == "bool")
theorem kit_kd {K : PySem.W.Frag} {T : String} (h : T = "str" ∨ T = "tuple" ∨ T = "list" ∨ T = "dict" ∨ T = "bool" ∨ T = "int") : ∀ d : PyData, PySem.W.kitOne K (.type (tyD d)) (.type T) = some (isKd T d) := by
  rcases h with rfl | rfl | rfl | rfl | rfl | rfl <;> (intro d; cases d <;> (dsimp only [tyD, isKd]; exact kit_ty (by decide +kernel)))
theorem isi_kd {K : PySem.W.Frag} {H : Hp} {v : V} {d : PyData} {Q : VK} {T : String} (hT : T = "str" ∨ T = "tuple" ∨ T = "list" ∨ T = "dict" ∨ T = "bool" ∨ T = "int") (h : Dx K H v d) (q : Q (.bl (isKd T d)) H) :
    rIsi K [v, .ty T] H Q := ⟨v, .ty T, _, _, _, rfl, .ty _, h.tyx, kit_kd hT d, q⟩
/-! ### members -/
/-- an integer from lo to hi -/
def isW (lo hi : Int) : PyData → Bool
  | .int i => decide (lo ≤ i) && decide (i ≤ hi)
  | _ => false
def isCh (d : PyData) : Bool := isT "change" d || isT "replace" d
def memD : PyData → Bool
  | .tuple [p, w, m] => isW 1 1000000 p && ((isT "locks" w && (rkD m).isSome) || (isT "changes" w && isCh m))
  | _ => false
end Rm
namespace Rm
open PySem PySem.Spec L2
open PyProof.Rows hiding St
/-! ### what is new -/
def nw (H H' : Hp) : Hp := fun b => match H b with
  | none => H' b
  | some _ => none
theorem none_of {H H' : Hp} {p : Addr} (s : Same H H') (n : H' p = none) : H p = none := by
  cases e : H p with
  | none => rfl
  | some u => rw [s _ _ e] at n; cases n
theorem nw_of {H H' : Hp} {p : Addr} {u : HO} (f : H p = none) (h : H' p = some u) : nw H H' p = some u := by
  unfold nw
  rw [f]
  exact h
theorem nw_at {H H' : Hp} {p t : Addr} {u o o' : HO} (ht : H t = some o) (f : H p = none) (h : H' p = some u) : nw H (upd H' t o') p = some u :=
  nw_of f (by rw [upd_ne (fun e => by rw [e, ht] at f; cases f)]; exact h)
theorem nw_same {H H' : Hp} : Same (nw H H') H' := fun b u h => by
  unfold nw at h
  split at h
  · exact h
  · cases h
theorem nw_off {H H' : Hp} {p : Addr} {u o : HO} (hp : H p = some u) : Same (nw H H') (upd H' p o) := fun b v h => by
  rw [upd_ne (fun e => by unfold nw at h; rw [e, hp] at h; cases h)]
  exact nw_same _ _ h
/-- a drawn value, all of it new -/
def spAnyN (K : PySem.W.Frag) : Sp := fun vs H Q _ => ∃ t o, vs = [.ref t] ∧ H t = some o ∧ IsTape o ∧
  ∀ v d H', Dx K (nw H H') v d → Sv d → Nxt t H H' → Q v H'
/-- lists and tuples of small data are small -/
theorem sv_dep : ∀ {ds : List PyData}, (∀ d ∈ ds, Sv d) → PyData.showableAll ds = true ∧ PyData.leavesShortAll 100 ds = true ∧ PyData.weightAll ds ≤ 1010 * ds.length ∧ PyData.depthAll ds ≤ 10
  | [], _ => ⟨rfl, rfl, by simp [PyData.weightAll], by simp [PyData.depthAll]⟩
  | d :: ds, h => by
    have hd := h d (.head _)
    obtain ⟨a, b, c, e⟩ := sv_dep (ds := ds) fun x m => h x (.tail _ m)
    obtain ⟨h1, h2, h3, h4⟩ := hd
    refine ⟨by simp [PyData.showableAll, h1, a], by simp [PyData.leavesShortAll, h2, b], ?_, ?_⟩
    · simp only [PyData.weightAll, List.length_cons]; omega
    · simp only [PyData.depthAll]; omega
theorem sm_seq {ds : List PyData} (h : ∀ d ∈ ds, Sv d) (hl : ds.length ≤ 40) : Sm (.list ds) ∧ Sm (.tuple ds) := by
  obtain ⟨a, b, c, e⟩ := sv_dep h
  refine ⟨⟨by simpa [PyData.showable] using a, by simpa [PyData.leavesShort] using b, ?_, ?_⟩, ⟨by simpa [PyData.showable] using a, by simpa [PyData.leavesShort] using b, ?_, ?_⟩⟩
  · simp only [PyData.weight]; omega
  · simp only [PyData.depth]; omega
  · simp only [PyData.weight]; omega
  · simp only [PyData.depth]; omega
theorem int_len {n k : Nat} (hk : 1 ≤ k) (h : n < 10 ^ k) : (PyData.int (n : Int)).shown.length ≤ k := by
  have e : (PyData.int (n : Int)).shown = Str.ofString (Nat.repr n) := rfl
  rw [e, ofString_len]
  have e2 : (Nat.repr n).length = (Nat.toDigits 10 n).length := by simp [Nat.repr]
  rw [e2]
  exact digits10_le hk h
theorem Sv.int {i : Int} (h0 : 0 ≤ i) (h : i < 1000000000) : Sv (.int i) := by
  obtain ⟨n, rfl⟩ := Int.eq_ofNat_of_zero_le h0
  have hl : n.log2 < 64 := by
    by_cases e : n = 0
    · rw [e]; decide
    · exact (Nat.log2_lt e).2 (by omega)
  refine ⟨?_, ?_, ?_, ?_⟩
  · simp only [PyData.showable, Int.natAbs_natCast]
    exact decide_eq_true (by omega)
  · simp only [PyData.leavesShort]
    exact decide_eq_true (Nat.le_trans (int_len (k := 9) (by decide) (by omega)) (by decide))
  · simp only [PyData.weight, Int.natAbs_natCast]
    split <;> omega
  · simp [PyData.depth]
theorem dxa_len {K : PySem.W.Frag} {H : Hp} : ∀ {xs : List V} {ds : List PyData}, DxAll K H xs ds → xs.length = ds.length
  | _, _, .nil => rfl
  | _, _, .cons _ r => congrArg Nat.succ (dxa_len r)
theorem dxa_snoc {K : PySem.W.Frag} {H : Hp} : ∀ {vs : List V} {ds : List PyData} {v : V} {d : PyData}, DxAll K H vs ds → Dx K H v d → DxAll K H (vs ++ [v]) (ds ++ [d])
  | _, _, _, _, .nil, h => .cons h .nil
  | _, _, _, _, .cons a r, h => .cons a (dxa_snoc r h)
theorem dxa_set {K : PySem.W.Frag} {H : Hp} : ∀ {vs : List V} {ds : List PyData} {v : V} {d : PyData} {j : Nat}, DxAll K H vs ds → Dx K H v d → DxAll K H (vs.set j v) (ds.set j d)
  | _, _, _, _, _, .nil, _ => .nil
  | _, _, _, _, 0, .cons _ r, h => .cons h r
  | _, _, _, _, j + 1, .cons a r, h => .cons a (dxa_set r h)
theorem dxa_drop {K : PySem.W.Frag} {H : Hp} : ∀ {vs : List V} {ds : List PyData} {j : Nat}, DxAll K H vs ds → DxAll K H (vs.eraseIdx j) (ds.eraseIdx j)
  | _, _, _, .nil => .nil
  | _, _, 0, .cons _ r => r
  | _, _, j + 1, .cons a r => .cons a (dxa_drop r)
theorem dxa_app {K : PySem.W.Frag} {H : Hp} : ∀ {vs us : List V} {ds es : List PyData}, DxAll K H vs ds → DxAll K H us es → DxAll K H (vs ++ us) (ds ++ es)
  | _, _, _, _, .nil, h => h
  | _, _, _, _, .cons a r, h => .cons a (dxa_app r h)
theorem dxa_rev {K : PySem.W.Frag} {H : Hp} : ∀ {vs : List V} {ds : List PyData}, DxAll K H vs ds → DxAll K H vs.reverse ds.reverse
  | _, _, .nil => .nil
  | _, _, .cons a r => by
    rw [List.reverse_cons, List.reverse_cons]
    exact dxa_app (dxa_rev r) (.cons a .nil)
theorem Nxt.go {t : Addr} {H H1 H2 : Hp} (n : Nxt t H H1) (s : Same H1 H2) : Nxt t H H2 := by
  obtain ⟨k, o, h1, h2⟩ := n
  exact ⟨fun b u hb ne => s _ _ (k b u hb ne), o, s _ _ h1, h2⟩
theorem Nxt.put {t l : Addr} {o : HO} {H H1 : Hp} (n : Nxt t H H1) (f : H l = none) (ht : t ≠ l) : Nxt t H (L2.upd H1 l o) := by
  obtain ⟨k, o', h1, h2⟩ := n
  exact ⟨fun b u hb ne => by rw [upd_ne (fun e => by rw [e, f] at hb; cases hb)]; exact k b u hb ne, o', by rw [upd_ne ht]; exact h1, h2⟩
theorem Nxt.turn {t : Addr} {o : HO} {H H1 : Hp} (n : Nxt t H H1) (ho : IsTape o) : Nxt t H (L2.upd H1 t o) := by
  obtain ⟨k, o', h1, h2⟩ := n
  exact ⟨fun b u hb ne => by rw [upd_ne ne]; exact k b u hb ne, o, upd_same, ho⟩
theorem Nxt.trans {t : Addr} {H H1 H2 : Hp} (n : Nxt t H H1) (m : Nxt t H1 H2) : Nxt t H H2 := by
  obtain ⟨k, o', h1, h2⟩ := n
  obtain ⟨k2, o2, h3, h4⟩ := m
  exact ⟨fun b u hb ne => k2 b u (k b u hb ne) ne, o2, h3, h4⟩
end Rm

set_option maxRecDepth 100000
set_option maxHeartbeats 4000000
namespace Rm
open PySem PySem.Spec L2 LamX
open PyProof.Rows hiding St

/-! ### x(lambda: e), where e may use that no display is being written, and errors of e are wished for at the slots of x -/
/-- the def at g, called from X at s -/
abbrev inG (X : Cx) (CXg : CXT) (Ng : List Str) (qg : Str) (sg : Scope) (g : Addr) (cg : Value) (s : Shared) (H : Hp) (Eg : XK) : Cx :=
  cxOf CXg X.prog X.w X.K X.mg X.base Ng qg sg g cg X.A X.stack s H Eg
abbrev lamQ (X : Cx) : Str := X.env.qual ++ "<lambda>"
abbrev lamO (X : Cx) (ps : Arguments) (e : Expr) (sc : Scope) (pm : Value) (c' : Addr) (ctv : Value) : Obj :=
  PySem.W.kla_obj "<lambda>" (lamQ X) ps e sc (cloFrom X.env.cells sc.names []) pm c' ctv
section
variable {X : Cx} {pins : List (Addr × Obj)} {σ : L2.St} {H : Hp} {s : Shared}
theorem act_gd {CXg : CXT} {Eg : XK} {Ng : List Str} {qg a : Str} {sg sc : Scope} {g f c' : Addr} {cg pm ctv : Value} {ps : Arguments} {e : Expr}
    {k i : Nat} {pn : List (Addr × Obj)} {xe : Value → Shared → Prop} {W : WX} {tb : XK → TE} {p1 p2 : Pos}
    (I : Inv X pins σ H s) (L : LamS X.env.scope sc) (hf : s.heap.get? f = some (lamO X ps e sc pm c' ctv)) (nf : H f = none) (ff : f ∉ frs X.stack)
    (hb : bindArgs (PySem.W.kla_fn "<lambda>" (lamQ X) ps e sc (cloFrom X.env.cells sc.names []) pm (.ref c') ctv) ⟨[], []⟩ = pure [])
    (tk : Takes ((inG X CXg Ng qg sg g cg s H Eg).tr pn xe) W) (hr : Room (k + 1) (X.A.deeper (envOfC qg sg s.heap.objs.size g cg)))
    (hG : Gd (X.A.deeper (envOfC qg sg s.heap.objs.size g cg)))
    (he : ∀ (A : Around) (outer : List Env) (z : Shared) (J : Hp) (E : XK), Room k (A.deeper (lamEnv X sc z.heap.objs.size f c')) → Gd (A.deeper (lamEnv X sc z.heap.objs.size f c')) →
      PE (lamCx X A outer z J E sc f c') e (tb E))
    (hN : Ng[i]? = some a) (hv : Vis sg a) (hd : (a == ("__debug__" : Str)) = false := by decide) (hcd : (a == ("__classdict__" : Str)) = false := by decide) :
    PE ((inG X CXg Ng qg sg g cg s H Eg).tr pn xe) (.Call (.Name a p1) [] [] p2)
      (fun τ J Q => τ[i]? = some (some (.ref f)) ∧ J c' = some (CodeO c' (lamQ X)) ∧ tb (WE W τ) σ J Q) := by
  constructor
  rintro pinsZ z τ J Q IZ ⟨slot, code, rd⟩
  have asked := (pe_var (pos := p1) (i := i) hN hv hd hcd).run pinsZ z τ J (fun v J1 => v = .ref f ∧ J1 = J) IZ ⟨.ref f, slot, rfl, rfl⟩
  refine wpAny_Call_Name_kw (thn asked fun u z1 ⟨v, J1, I1, ru, ev, eJ⟩ => ?_)
  subst ev eJ
  have eu : u = Value.ref f := ru
  subst eu
  have keeps : Un (frs X.stack) [] H J1 s.heap z1.heap := I1.base
  have fz : z1.heap.get? f = some (lamO X ps e sc pm c' ctv) := keeps.keep f _ hf nf ff (fun q => by cases q)
  refine PySem.W.callWith_F0 ⟨_, _, _, _, fz⟩ ?_
  obtain ⟨⟨oc, vs, t, c1, c2, c3⟩, _, _⟩ := I1.hok c' _ code
  refine wpAny_call (codeAny_mono (R := CR (L2.CX X.prog X.w) ((envOfC qg sg s.heap.objs.size g cg) :: X.stack) X.prog X.w J1 z1 Q (WE W τ)) ?_ fun r z2 hq => ?_)
  · refine PySem.W.kla_callFunE hr.depth fz rfl L.co L.gen rfl ⟨c', oc, vs, t, rfl, c1, c2, c3⟩ ?_
    have hb' : bindArgs (PySem.W.kla_fn "<lambda>" (lamQ X) ps e sc (cloFrom X.env.cells sc.names []) pm (.ref c') ctv) ⟨[] ++ [], []⟩ = pure [] := hb
    rw [hb']
    refine wpAny_pure (wpAny_newFunctionEnv (fun y hy => (L.own y hy).2) (fun y hy => by cases hy) (fun hp names but => ⟨I1.nolimit.fresh _ but, ?_⟩) L.kind)
    have grown : ∀ b o, z1.heap.get? b = some o → hp.get? b = some o := fun b o q =>
      but.extBut b o (Nat.ne_of_lt (Heap.lt_size q)) (Heap.get?_push_of_some _ q)
    have start := lam_start2 (A := X.A.deeper (envOfC qg sg s.heap.objs.size g cg)) (outer := (envOfC qg sg s.heap.objs.size g cg) :: X.stack) (E := WE W τ) (f := f) (c' := c')
      (tk := z1.toks + ([] : List (Str × Value)).length) I L I1.env0 hr.hd keeps names grown
    refine PySem.W.kla_codeExpr (wpAny_mono ((he _ _ z1 J1 (WE W τ) (hr.deeper _) (hG.deeper _)).run [] _ _ J1 Q start rd) (fun v z3 hq => ?_) fun er z3 hq => hq)
    obtain ⟨y, J2, I2, ry, q⟩ := hq
    exact ⟨y, J2, I2.os, I2.bare, I2.base, I2.hok, ry, q⟩
  · match r, hq with
    | .error er, hq => exact passAt tk τ pinsZ J1 z1 er z2 I1 hq
    | .ok (.ret u), hq => exact I1.after hq
    | .ok .next, hq => exact False.elim hq
    | .ok .brk, hq => exact False.elim hq
    | .ok .cont, hq => exact False.elim hq
/-- what the def x at g, whose one name in front is a, makes of the thing that it may call -/
def Gives (X : Cx) (x a q : Str) (Ng : List Str) (sg : Scope) (g : Addr) (cg : Value) (bg : List Stmt) (TT : (XK → Hp → VK → Prop) → Hp → VK → Prop) : Prop :=
  ∀ (f c' : Addr) (s : Shared) (H : Hp) (Q : VK) (tl : XK → Hp → VK → Prop),
    (∀ (W : WX) (pn : List (Addr × Obj)) (xe : Value → Shared → Prop) (p1 p2 : Pos), Takes ((inG X CX0 Ng x sg g cg s H E0).tr pn xe) W →
      PE ((inG X CX0 Ng x sg g cg s H E0).tr pn xe) (.Call (.Name a p1) [] [] p2)
        (fun τ J Q => τ[0]? = some (some (.ref f)) ∧ J c' = some (CodeO c' q) ∧ tl (WE W τ) J Q)) →
    H c' = some (CodeO c' q) → TT tl H Q →
    ∃ t, PSs (inG X CX0 Ng x sg g cg s H E0).nox bg t ∧ t { nx := fun _ H' => Q .non H', rt := Q } (L2.start Ng [.ref f]) H
theorem pe_lamG {T : List (Addr × Str)} {TT : (XK → Hp → VK → Prop) → Hp → VK → Prop} {x a : Str} {g c P : Addr} {k : Nat} {pg ps : Arguments} {bg : List Stmt} {sg sc : Scope}
    {dV kV doc pm cg ct oc : Value} {an od : Option Addr} {osl : Array (Option Value)} {Ng : List Str} {e : Expr} {t : XK → TE} {p lp pos : Pos}
    (hm : X.mg x = some (.ref g)) (hk : PySem.W.keepIn X.K (.ref g) = true)
    (lk : X.K.lookup g = some ⟨oc, od, .func (PySem.W.fnOf x x pg bg sg dV kV doc pm an cg ct), osl⟩) (hcg : PySem.W.codeIn X.K cg x = true)
    (hbd : L2.Binds X.K (PySem.W.fnOf x x pg bg sg dV kV doc pm an cg ct) [a] []) (Sg : FnScope Ng [a] sg)
    (give : Gives X x a (lamQ X) Ng sg g cg bg TT) (TB : TabB X.base X.mg c P)
    (hT : (P, lamQ X) ∈ T) (hu : ∀ y ∈ T, y.1 = P → y.2 = lamQ X) (hr : Room (k + 2) X.A) (hG : Gd X.A)
    (he : ∀ (A : Around) (outer : List Env) (z : Shared) (J : Hp) (E : XK) (f c' : Addr), Room k (A.deeper (lamEnv X sc z.heap.objs.size f c')) → Gd (A.deeper (lamEnv X sc z.heap.objs.size f c')) →
      PE (lamCx X A outer z J E sc f c') e (t E))
    (L : LamS X.env.scope sc) (hg : Gl X x := by rfl) (h0 : Ng[0]? = some a := by rfl) (hva : Vis sg a := by first | exact Or.inl rfl | exact Or.inr (Or.inl rfl)) (hcode : X.env.code = .ref c := by rfl) (hdef : defaultsOf ps X.env = ([], []) := by rfl)
    (hba : ∀ (q : Str) (cl : List (Str × Addr)) (pm cv ctv : Value), bindArgs (PySem.W.kla_fn "<lambda>" q ps e sc cl pm cv ctv) ⟨[], []⟩ = pure [] := by intros; rfl)
    (hdb : (x == ("__debug__" : Str)) = false := by decide) (hd : (a == ("__debug__" : Str)) = false := by decide) (hcd : (a == ("__classdict__" : Str)) = false := by decide) :
    PE X (.Call (.Name x p) [.Lambda ps e sc lp] [] pos) (tLam T TT t) := by
  constructor
  rintro pins s σ H Q I ⟨tabs, rd⟩
  refine wpAny_Call_Name_kw (ld_glob I hg hm (PySem.W.callWith_K (h₀ := X.base) I.ok.mod.kin hk ?_ (by rfl) (by rfl)) hdb)
  show wpAny _ _ (spliced ((false, eval (.Lambda ps e sc lp) X.env) :: backTo pos (starEach [] X.env))) _ _ s
  refine Calls.spliced_cons (lam_make2 I TB hcode hT hu tabs hdef (L.has I.ok) fun f c' pm' ctv H1 z I1 eN T1 hf nf ff co => Calls.spliced_nil ⟨I1.kIn, ?_⟩)
  refine wpAny_call (codeAny_mono (R := CR CX0 X.stack X.prog X.w H1 z Q E0) ?_ fun r z2 hq => ?_)
  · refine run_ofS (us := [.ref f]) (vs := [.ref f]) lk hcg Sg hr I1.env0 (hbd z [.ref f] I1.kIn rfl) (.cons rfl .nil) rfl fun hr' => ?_
    obtain ⟨t', ht, q⟩ := give f c' z H1 Q (fun E J Q' => t E σ J Q') (fun W pn xe p1 p2 tk =>
      act_gd (i := 0) I1 L hf nf ff (hba _ _ _ _ _) tk hr' (hG.deeper _) (fun A outer y J E h1 h2 => he A outer y J E f c' h1 h2) h0 hva hd hcd) co (rd H1 eN T1)
    exact ⟨t', ht.nox, q⟩
  · match r, hq with
    | .error er, hq => exact False.elim hq
    | .ok (.ret u), hq => exact I1.after hq
    | .ok .next, hq => exact False.elim hq
    | .ok .brk, hq => exact False.elim hq
    | .ok .cont, hq => exact False.elim hq
end
end Rm

set_option maxRecDepth 100000
set_option maxHeartbeats 4000000
namespace Rm
open PySem PySem.Spec L2
open PyProof.Rows hiding St

/-! ### the end, where the law's defs make lambdas: cs, the code objects and their tables -/
abbrev tabO : Obj := { cls := .none, data := .fields #[] }
section
variable {P : Program} {w : World} {K : PySem.W.Frag} {mg mb : Str → Option Value} {k : Nat} {fa a : Addr} {fd : FuncData} {x : Str} {sp : Sp} {cs : List (Addr × Addr)}
variable {s : Shared} {vs : List Value} {ns : List Int}
/-- H tracks the tables, and the script at most -/
structure BareT (P : Program) (w : World) (K : PySem.W.Frag) (s : Shared) (a : Addr) (cs : List (Addr × Addr)) (H : Hp) : Prop where
  tb : ∀ p ∈ cs, H p.2 = some (.tbl #[])
  only : ∀ b, H b = none ∨ (∃ p ∈ cs, p.2 = b) ∨ ∃ o xs, H b = some (.frz o (.lst xs))
  hok : HOk P w H s.heap
  at_ : ∀ b u, H b = some u → b = a ∨ ∃ p ∈ cs, p.2 = b
  out : ∀ u, H a = some u → K.lookup a = none
  lst : ∃ vs : List Value, s.heap.get? a = some { cls := .type "list", data := .seq vs.toArray }
  isT : ∀ p ∈ cs, s.heap.get? p.2 = some tabO
  nT : ∀ p ∈ cs, K.lookup p.2 = none
theorem BareT.free {H : Hp} (B : BareT P w K s a cs H) {b : Addr} {o : Obj} (e : s.heap.get? b = some o) (h1 : ∀ vs n, o.data ≠ .seq vs n) (h2 : o.data ≠ .fields #[]) : H b = none := by
  cases q : H b with
  | none => rfl
  | some u =>
    rcases B.at_ b u q with z | ⟨p, hp, z⟩
    · obtain ⟨vs, l⟩ := B.lst
      rw [z, l] at e
      cases e
      exact (h1 _ _ rfl).elim
    · have t := B.isT p hp
      rw [z, e] at t
      cases t
      exact (h2 rfl).elim
theorem BareT.dict {H : Hp} (B : BareT P w K s a cs H) {b : Addr} {o : Obj} {es : Array DictEntry} {ep : Nat} (e : s.heap.get? b = some o) (d : o.data = .dict es ep) : H b = none :=
  B.free e (fun vs n z => by rw [d] at z; cases z) fun z => by rw [d] at z; cases z
theorem BareT.names {H : Hp} (B : BareT P w K s a cs H) {b : Addr} {m : Str → Option Value} (h : s.heap.Ns b m) : (hidT s.heap H).Ns b m := by
  obtain ⟨o, es, ep, e, d, r⟩ := h
  exact ⟨o, es, ep, hidT_get e (B.dict e d), d, r⟩
theorem BareT.kin {H : Hp} (B : BareT P w K s a cs H) (KX : K.In s.heap) : K.In (hidT s.heap H) := fun b o e => by
  refine hidT_get (KX b o e) ?_
  cases q : H b with
  | none => rfl
  | some u =>
    rcases B.at_ b u q with z | ⟨p, hp, z⟩
    · subst z
      rw [B.out u q] at e
      cases e
    · rw [← z, B.nT p hp] at e
      cases e
theorem told_ofT {H : Hp} (B : BareT P w K s a cs H) (KX : K.In s.heap) (hns : s.heap.Ns mainGlobals mg) (hb : s.heap.Ns builtinsNs mb)
    (hbb : ∀ y : Str, y ≠ "__name__" → mb y = bootBuiltins y) (hlim : s.heap.NoLimit) (hg : s.gens = #[]) (hr : Room k callerA)
    (C : ∀ p ∈ cs, PySem.W.CodeHd s.heap p.1 p.2)
    (hbm : ∃ (bm : Addr) (ob : Obj), mg "__builtins__" = some (.ref bm) ∧ bm ≠ builtinsNs ∧ s.heap.get? bm = some ob ∧ ob.cls = .type "module" ∧ ob.dict = some builtinsNs ∧ ob.data = .plain)
    (F : ∀ base : Heap, K.In base → base.Ns mainGlobals mg → (∀ p ∈ cs, LamX.TabB base mg p.1 p.2) → FnG P w K mg base CX0 k fa fd [x] sp)
    (hbind : ∀ (s : Shared) (u : Value), BindsTo s fd ⟨[u], []⟩ [(x, u)])
    (q : sp [.ref a] H (fun v _ => v = .bl true) E0) :
    codeAny (model P w) callerA (.call (.ref fa) ⟨[.ref a], []⟩) (Told s) s := by
  have kin := B.kin KX
  have lim : (hidT s.heap H).NoLimit := by
    obtain ⟨mc, h1, h2⟩ := hlim
    exact ⟨mc, B.names h1, h2⟩
  have md : Mod K mg (hidT s.heap H) := ⟨kin, B.names hns, ⟨mb, B.names hb, hbb⟩, lim⟩
  have none_in : ∀ b : Addr, b ∉ ([] : List Addr) := fun b z => by cases z
  have isDict : ∀ {b : Addr} {m : Str → Option Value}, s.heap.Ns b m → ∀ {o : Obj}, s.heap.get? b = some o → ∃ es ep, o.data = .dict es ep := fun h o e => by
    obtain ⟨o', es, ep, e', d, _⟩ := h
    rw [e] at e'
    cases e'
    exact ⟨es, ep, d⟩
  have tabB : ∀ p ∈ cs, LamX.TabB (hidT s.heap H) mg p.1 p.2 := fun p hp => by
    have tp := B.isT p hp
    refine ⟨?_, ?_, fun z => ?_⟩
    · obtain ⟨o, us, file, tf, flags, tg, inF, text, tt, e1, r1, r2, r3, rest⟩ := C p hp
      refine ⟨o, us, file, tf, flags, tg, inF, text, tt, hidT_get e1 (B.free e1 (fun vs n z => ?_) fun z => ?_), r1, r2, r3, rest⟩
      · rw [r2] at z
        cases z
      · rw [r2] at z
        cases z
        simp at r3
    · obtain ⟨bm, ob, b1, b2, b3, b4, b5, b6⟩ := hbm
      refine ⟨bm, ob, b1, b2, fun z => ?_, fun z => ?_, hidT_get b3 (B.free b3 (fun vs n z => ?_) fun z => ?_), b4, b5, b6⟩
      · obtain ⟨es, ep, d⟩ := isDict hns (z ▸ b3)
        rw [b6] at d
        cases d
      · rw [z, tp] at b3
        cases b3
        cases b6
      · rw [b6] at z
        cases z
      · rw [b6] at z
        cases z
    · obtain ⟨es, ep, d⟩ := isDict hns (z ▸ tp)
      cases d
  have env : Env0 P w K mg (hidT s.heap H) callerA [] s H :=
    ⟨rfl, md, fun b o e => of_hidT e, Nat.le_of_eq (hidT_size _ _), trivial, fun b z => absurd z (none_in b), B.hok, .of_eq hg⟩
  have run := (F _ kin (B.names hns) tabB).run callerA [] s H ⟨[.ref a], []⟩ [.ref a] [.ref a] _ _ hr rfl env (hbind s (.ref a)) (.cons rfl .nil) q
  refine codeAny_mono run fun r s' h => ?_
  match r, h with
  | .error e, h => exact False.elim h
  | .ok .next, h => exact False.elim h
  | .ok .brk, h => exact False.elim h
  | .ok .cont, h => exact False.elim h
  | .ok (.ret u), ⟨v, H', os, bare, un, hok', r', ev⟩ =>
    have ev : v = .bl true := ev
    subst ev
    have eu : u = Value.bool true := r'
    subst eu
    have kept : ∀ b o, (¬ ∃ p ∈ cs, p.2 = b) → s.heap.get? b = some o → s'.heap.get? b = some o := fun b o nb e => by
      rcases B.only b with z | z | ⟨ob, xs, z⟩
      · exact un.keep b o e z (none_in b) (none_in b)
      · exact absurd z nb
      · have e1 := (B.hok b _ z).1
        have e2 := (hok' b _ (un.frzs b ob _ z)).1
        exact e2.trans (e1.symm.trans e)
    have grown : ∀ p ∈ cs, ∃ more : Array Value, s'.heap.get? p.2 = some { cls := .none, data := .fields more } := fun p hp => by
      obtain ⟨more, z⟩ := un.tbls p.2 #[] (B.tb p hp)
      exact ⟨_, hok' p.2 _ z⟩
    refine ⟨rfl, ⟨fun b o e => ?_, fun b o e => ?_⟩, os, bare⟩
    · by_cases nb : ∃ p ∈ cs, p.2 = b
      · obtain ⟨p, hp, rfl⟩ := nb
        obtain ⟨more, hm⟩ := grown p hp
        have tp := B.isT p hp
        rw [tp] at e
        cases e
        exact .inr (.inl ⟨((C p hp).tab tp).isCodeTable, rfl, #[], more, rfl, by rw [Array.empty_append]; exact hm⟩)
      · exact .inl (kept b o nb e)
    · by_cases nb : ∃ p ∈ cs, p.2 = b
      · obtain ⟨p, hp, rfl⟩ := nb
        obtain ⟨more, hm⟩ := grown p hp
        exact ⟨_, hm⟩
      · exact ⟨o, kept b o nb e⟩
/-- the tables, and the script where it is none of the written part -/
def scT (K : PySem.W.Frag) (a : Addr) (vs : List Value) (ns : List Int) (cs : List (Addr × Addr)) : Hp := fun b =>
  if b ∈ cs.map (·.2) then some (.tbl #[]) else if b = a ∧ K.lookup a = none then some (.frz { cls := .type "list", data := .seq vs.toArray } (.lst (ns.map V.int))) else none
theorem bareT (ha : s.heap.get? a = some { cls := .type "list", data := .seq vs.toArray }) (hi : IntsAre vs ns) (hl : ns.length ≤ sizeLine)
    (isT : ∀ p ∈ cs, s.heap.get? p.2 = some tabO) (nT : ∀ p ∈ cs, K.lookup p.2 = none) : BareT P w K s a cs (scT K a vs ns cs) ∧ (K.lookup a = none → Rd (scT K a vs ns cs) a (.lst (ns.map V.int))) := by
  have mem : ∀ {b : Addr}, b ∈ cs.map (·.2) ↔ ∃ p ∈ cs, p.2 = b := List.mem_map
  have na : a ∉ cs.map (·.2) := fun z => by
    obtain ⟨p, hp, e⟩ := mem.mp z
    have t := isT p hp
    rw [e, ha] at t
    have z' : Data.seq vs.toArray _ = Data.fields #[] := congrArg Obj.data (Option.some.inj t)
    cases z'
  have cases_ : ∀ {b : Addr} {u : HO}, scT K a vs ns cs b = some u → (b ∈ cs.map (·.2) ∧ u = .tbl #[]) ∨ (b = a ∧ K.lookup a = none ∧ u = .frz { cls := .type "list", data := .seq vs.toArray } (.lst (ns.map V.int))) := fun {b u} z => by
    unfold scT at z
    split at z
    · rename_i h
      exact .inl ⟨h, (Option.some.inj z).symm⟩
    · split at z
      · rename_i h
        exact .inr ⟨h.1, h.2, (Option.some.inj z).symm⟩
      · cases z
  refine ⟨⟨fun p hp => if_pos (mem.mpr ⟨p, hp, rfl⟩), fun b => ?_, fun b u z => ?_, fun b u z => ?_, fun u z => ?_, ⟨vs, ha⟩, isT, nT⟩, fun h => .inr ⟨_, (if_neg na).trans (if_pos ⟨rfl, h⟩)⟩⟩
  · cases e : scT K a vs ns cs b with
    | none => exact .inl rfl
    | some u =>
      rcases cases_ e with ⟨h, rfl⟩ | ⟨_, _, rfl⟩
      · exact .inr (.inl (mem.mp h))
      · exact .inr (.inr ⟨_, _, rfl⟩)
  · rcases cases_ z with ⟨h, rfl⟩ | ⟨rfl, _, rfl⟩
    · obtain ⟨p, hp, rfl⟩ := mem.mp h
      exact isT p hp
    · exact ⟨ha, by rw [List.length_map]; exact hl, vs, _, vals_ints hi, ha⟩
  · rcases cases_ z with ⟨h, _⟩ | ⟨h, _⟩
    · exact .inr (mem.mp h)
    · exact .inl h
  · rcases cases_ z with ⟨h, _⟩ | ⟨_, h, _⟩
    · exact absurd h na
    · exact h
end
theorem walkT {l : PySem.W.OpenLaw} {k : Nat} {q : Program} {loose : List Str} {XP : (Str → Option Value) → Heap → Prop} {YP : World → Heap → Prop} {d : DefRec}
    {K : Params → PySem.W.Frag} (hn : l.most = some 63) (hdf : d.params.defaults = []) (hr : Room k callerA)
    (hY : ∀ (w : World) (h : Heap), YP w h → (K w.params).In h)
    (F : ∀ (w : World) (mg : Str → Option Value) (fa : Addr) (h : Heap), YP w h → (K w.params).In h → h.Ns mainGlobals mg → mg d.name = some (.ref fa) →
      ∃ (fd : FuncData) (cs : List (Addr × Addr)) (T : List (Addr × Str)), (∀ p ∈ cs, h.get? p.2 = some tabO) ∧ (∀ p ∈ cs, (K w.params).lookup p.2 = none) ∧ (∀ p ∈ cs, PySem.W.CodeHd h p.1 p.2) ∧
        (∀ y ∈ T, ∃ p ∈ cs, p.2 = y.1) ∧ (∀ (s : Shared) (u : Value), BindsTo s fd ⟨[u], []⟩ [("_law_script", u)]) ∧
        ∀ base : Heap, (K w.params).In base → base.Ns mainGlobals mg → (∀ p ∈ cs, LamX.TabB base mg p.1 p.2) → FnG l.prog w (K w.params) mg base CX0 k fa fd ["_law_script"]
          (fun vs H Q _ => ∃ (a : Addr) (ns : List Int), vs = [.ref a] ∧ SqL (K w.params) H a (ns.map V.int) ∧ ns.length ≤ 63 ∧ (∀ n ∈ ns, Builtin.Int.intBits n ≤ 1048576) ∧ LamX.Tabs T H ∧ ∀ H', Q (.bl true) H')) :
    PySem.W.WalkO q loose XP YP l.row.toRowW d [] (fun f vs => PySem.call f vs) := by
  refine Att.attach_callB hn hdf fun w s₀ s mg mb fa o pm cd doc a vs ns G Y ho hd hcd hmg ha hi hlen hbits hg => ?_
  have KX := hY w _ Y
  obtain ⟨fd, cs, T, isT, nT, C, hT, hb, hF⟩ := F w mg fa _ Y KX G.T.g hmg
  have hl : ns.length ≤ sizeLine := Nat.le_trans hlen (by decide)
  obtain ⟨B, here⟩ := bareT (P := l.prog) (w := w) (K := K w.params) (cs := cs) ha hi hl isT nT
  refine told_ofT B KX G.T.g G.T.b G.T.builtins G.T.nolimit hg hr C G.T.bmain hF hb ⟨a, ns, rfl, ?_, hlen, hbits, fun y hy => ?_, fun _ => rfl⟩
  · cases hk : (K w.params).lookup a with
    | none => exact .inl (here hk)
    | some ob =>
      have e := KX a ob hk
      rw [ha] at e
      cases e
      refine .inr ⟨_, vs.toArray, _, hk, rfl, rfl, rfl, ?_, ?_⟩
      · rw [List.size_toArray, hi.length]; exact hl
      · simpa using vals_ints hi
  · obtain ⟨p, hp, e⟩ := hT y hy
    exact LamX.TabS.nil (by rw [← e]; exact B.tb p hp)
end Rm

set_option maxRecDepth 100000
set_option maxHeartbeats 4000000
namespace Rm
open PySem PySem.Spec L2
open PyProof.Rows hiding St

/-! ### a list beside an empty one -/
def rEqE (K : PySem.W.Frag) : R2 := fun x y H Q => ∃ a xs b, x = .ref a ∧ SqL K H a xs ∧ y = .ref b ∧ SqL K H b [] ∧ Q (.bl xs.isEmpty) H
theorem op_eqE {X : Cx} (hu : X.A.units < cLine) : OpR X (compareOp .Eq) (rEqE X.K) := by
  intro pins s σ H x y v u Q I rx ry h
  obtain ⟨a, xs, b, rfl, ha, rfl, hb, q⟩ := h
  cases rx
  cases ry
  obtain ⟨its, rv, hl, _⟩ := I.list ha
  obtain ⟨its2, rv2, hl2, _⟩ := I.list hb
  have z2 : its2 = [] := by
    cases rv2
    rfl
  subst z2
  refine PySem.W.cmp_ofEq ?_
  cases rv with
  | nil =>
    refine PySem.SeqAt.RcAt.lists (e := fun _ => true) hl.isList hl2.isList rfl hu (fun j h1 _ => absurd h1 (by simp)) _ _ _ _ ?_
    exact ⟨.bl _, H, I, rfl, q⟩
  | cons r rs =>
    refine PySem.SeqAt.RcAt.lists_lengths hl.isList hl2.isList (by simp) hu _ _ _ _ ?_
    exact ⟨.bl _, H, I, rfl, q⟩
def rEqET (K : PySem.W.Frag) : R2 := fun x y H Q => ∃ a xs b, x = .ref a ∧ SqT K H a xs ∧ y = .ref b ∧ SqT K H b [] ∧ Q (.bl xs.isEmpty) H
theorem op_eqET {X : Cx} (hu : X.A.units < cLine) : OpR X (compareOp .Eq) (rEqET X.K) := by
  intro pins s σ H x y v u Q I rx ry h
  obtain ⟨a, xs, b, rfl, ha, rfl, hb, q⟩ := h
  cases rx
  cases ry
  obtain ⟨its, rv, hl, _⟩ := I.tuple ha
  obtain ⟨its2, rv2, hl2, _⟩ := I.tuple hb
  have z2 : its2 = [] := by
    cases rv2
    rfl
  subst z2
  refine PySem.W.cmp_ofEq ?_
  have r := PySem.SeqAt.RcAt.tuples (A := X.A) (s := s) (items := its.toArray) (items2 := ([] : List Value).toArray) (e := fun _ => true) hl hl2 hu (fun j _ h2 => absurd h2 (by simp))
  cases rv with
  | nil => exact r _ _ _ _ ⟨.bl _, H, I, rfl, q⟩
  | cons r1 rs =>
    simp at r
    exact r _ _ _ _ ⟨.bl _, H, I, rfl, q⟩
/-! ### what an operation is, as plain data -/
def lnZ (z : Str) : Bool := decide (1 ≤ z.length) && (decide (z.length ≤ 6) && z.cps.toList.all fun c => decide (97 ≤ c) && decide (c ≤ 122))
theorem cp128 : ∀ c : Fin 128, Unicode.isAlpha c.val = ((decide (65 ≤ c.val) && decide (c.val ≤ 90)) || (decide (97 ≤ c.val) && decide (c.val ≤ 122))) ∧ Unicode.isLower c.val = (decide (97 ≤ c.val) && decide (c.val ≤ 122)) ∧
    (Unicode.isUpper c.val || Unicode.isTitle c.val) = (decide (65 ≤ c.val) && decide (c.val ≤ 90)) := by decide +kernel
def nmZ (z : Str) : Bool := decide (z.length ≤ 6) && (Txt.isascii z && (Txt.isalpha z && Txt.islower z))
theorem all_iff {z : Str} {f : Nat → Bool} : z.cps.all f = true ↔ ∀ c ∈ z.cps.toList, f c = true := by
  rw [← Array.all_toList, List.all_eq_true]
theorem any_iff {z : Str} {f : Nat → Bool} : z.cps.any f = true ↔ ∃ c ∈ z.cps.toList, f c = true := by
  rw [← Array.any_toList, List.any_eq_true]
theorem nm_ln (z : Str) : nmZ z = lnZ z := by
  rw [Bool.eq_iff_iff]
  unfold nmZ lnZ Txt.isascii Txt.isalpha Txt.islower
  simp only [Bool.and_eq_true, decide_eq_true_eq, all_iff, any_iff, Bool.not_eq_true', List.all_eq_true]
  constructor
  · rintro ⟨h6, ha, ⟨hp, hal⟩, ⟨c0, hc0, hl0⟩, hno⟩
    refine ⟨hp, h6, fun c hc => ?_⟩
    have lt := ha c hc
    obtain ⟨e1, e2, e3⟩ := cp128 ⟨c, lt⟩
    have a1 := hal c hc
    have nu : (Unicode.isUpper c || Unicode.isTitle c) = false := by
      cases e : (Unicode.isUpper c || Unicode.isTitle c) with
      | false => rfl
      | true =>
        have : z.cps.any (fun c => Unicode.isUpper c || Unicode.isTitle c) = true := any_iff.mpr ⟨c, hc, e⟩
        rw [this] at hno
        cases hno
    dsimp only at e1 e3
    rw [nu] at e3
    rw [a1, ← e3] at e1
    simpa using e1
  · rintro ⟨hp, h6, h⟩
    have lt : ∀ c ∈ z.cps.toList, c < 128 := fun c hc => by
      have := (h c hc).2
      omega
    refine ⟨h6, lt, ⟨hp, fun c hc => ?_⟩, ?_, ?_⟩
    · obtain ⟨e1, _, _⟩ := cp128 ⟨c, lt c hc⟩
      dsimp only at e1
      rw [e1]
      obtain ⟨a, b⟩ := h c hc
      simp [a, b]
    · have : 0 < z.cps.toList.length := hp
      obtain ⟨c, hc⟩ := List.exists_mem_of_length_pos this
      refine ⟨c, hc, ?_⟩
      obtain ⟨_, e2, _⟩ := cp128 ⟨c, lt c hc⟩
      dsimp only at e2
      rw [e2]
      obtain ⟨a, b⟩ := h c hc
      simp [a, b]
    · cases e : z.cps.any (fun c => Unicode.isUpper c || Unicode.isTitle c) with
      | false => rfl
      | true =>
        obtain ⟨c, hc, hu⟩ := any_iff.mp e
        obtain ⟨_, _, e3⟩ := cp128 ⟨c, lt c hc⟩
        dsimp only at e3
        rw [hu] at e3
        obtain ⟨a, b⟩ := h c hc
        have e3 := e3.symm
        simp at e3
        omega
def nmD : PyData → Bool
  | .str z => lnZ z
  | _ => false
def ALN : List Str := ["begin", "crash", "clean"]
def WNR : List Str := ["save", "release", "back", "commit", "abort", "prepare"]
def vlo : Int := 1 - 10 ^ 30
def vhi : Int := 10 ^ 30 - 1
/-- what follows the word -/
def opK (l : List PyData) : Bool := match l with
  | [n, m] => nmD n && (rkD m).isSome
  | _ => false
def opC (l : List PyData) : Bool := match l with
  | [n, m, v] => nmD n && (isCh m && isW vlo vhi v)
  | _ => false
def opL (z : Str) (r : List PyData) : Bool :=
  if z ∈ WNR then r.isEmpty else if z = "lock" then opK r else if z = "change" then opC r else false
def opT (z : Str) (r : List PyData) : Bool := match r with
  | [] => false
  | x :: r' => isW 1 1000000 x && opL z r'
def opH (r : List PyData) : Bool := match r with
  | [x] => isW 0 60 x
  | _ => false
def opR (z : Str) (r : List PyData) : Bool :=
  if z ∈ ALN then r.isEmpty else if z = "horizon" then opH r else opT z r
def opD : PyData → Bool
  | .tuple (.str z :: r) => opR z r
  | _ => false
theorem sm_all {ds : List PyData} (h : Sm (.tuple ds)) : ∀ d ∈ ds, Sm d := by
  induction ds with
  | nil => intro d hd; cases hd
  | cons a ds ih =>
    obtain ⟨h1, h2, h3, h4⟩ := h
    simp only [PyData.showable, PyData.showableAll, Bool.and_eq_true] at h1
    simp only [PyData.leavesShort, PyData.leavesShortAll, Bool.and_eq_true] at h2
    simp only [PyData.weight, PyData.weightAll] at h3
    simp only [PyData.depth, PyData.depthAll] at h4
    intro d hd
    rcases List.mem_cons.mp hd with rfl | hd
    · exact ⟨h1.1, h2.1, by omega, by omega⟩
    · exact ih ⟨by simpa only [PyData.showable] using h1.2, by simpa only [PyData.leavesShort] using h2.2, by simp only [PyData.weight]; omega, by simp only [PyData.depth]; omega⟩ d hd
theorem sm_strlen {z : Str} (h : Sm (.str z)) : z.length ≤ 100000 := h.wt
theorem cut_tail {xs : List V} (h : 1 ≤ xs.length) : cutV xs (some (1 : Int)) none = xs.drop 1 := by
  unfold cutV
  rw [show ((1 : Int)) = ((1 : Nat) : Int) from rfl, HT.sIx_nat, HT.sIx_none, Nat.min_eq_left h, List.take_of_length_le (by rw [List.length_drop]; exact Nat.le_refl _)]
theorem sqt_up {K : PySem.W.Frag} {H H' : Hp} {a : Addr} {xs : List V} (s : Same H H') (h : SqT K H a xs) : SqT K H' a xs :=
  h.elim (fun h => .inl (h.elim (fun h => .inl (s _ _ h)) fun ⟨o, h⟩ => .inr ⟨o, s _ _ h⟩)) .inr
theorem any_isT {l : List Str} {z : Str} : l.any (fun y => isT y (.str z)) = decide (z ∈ l) := by
  rw [Bool.eq_iff_iff]
  simp [isT]
theorem any_notT {l : List Str} {d : PyData} (h : ∀ z, d ≠ .str z) : l.any (fun y => isT y d) = false := by
  rw [List.any_eq_false]
  intro y _
  cases d with
  | str z => exact absurd rfl (h z)
  | _ => simp [isT]
theorem isT_not {y : Str} {d : PyData} (h : ∀ z, d ≠ .str z) : isT y d = false := by
  cases d with
  | str z => exact absurd rfl (h z)
  | _ => rfl
end Rm

set_option maxRecDepth 100000
set_option maxHeartbeats 4000000
namespace Rm
open PySem PySem.Spec L2
open PyProof.Rows hiding St

def asA (z : Str) : Bool := z.cps.toList.all fun c => decide (c < 128)
theorem asA_app {x y : Str} (h : asA x = true) (h' : asA y = true) : asA (x ++ y) = true := by
  unfold asA at h h' ⊢
  have e : (x ++ y).cps.toList = x.cps.toList ++ y.cps.toList := by
    show (x.cps ++ y.cps).toList = _
    simp
  rw [e, List.all_append, h, h']
  rfl
theorem asA_cut {z : Str} {lo hi : Option Int} (h : asA z = true) : asA (cutS z lo hi) = true := by
  unfold asA at h ⊢
  rw [List.all_eq_true] at h ⊢
  intro c hc
  unfold cutS at hc
  simp only at hc
  exact h c (List.mem_of_mem_drop (List.mem_of_mem_take hc))
theorem asA_smC {z : Str} (h : asA z = true) : smC z = true := by
  unfold asA at h
  unfold smC
  rw [List.all_eq_true] at h ⊢
  intro c hc
  have := of_decide_eq_true (h c hc)
  exact decide_eq_true (Nat.lt_trans this (by decide))
theorem asA_one {z : Str} {c : Nat} (h : asA z = true) (hc : c ∈ z.cps.toList) : asA ⟨#[c]⟩ = true := by
  unfold asA at h ⊢
  rw [List.all_eq_true] at h
  simpa using h c hc
theorem join_as0 : ∀ {ys : List Str}, (∀ y ∈ ys, y.length = 1 ∧ asA y = true) → (Str.join "" ys).length = ys.length ∧ asA (Str.join "" ys) = true
  | [], _ => ⟨rfl, rfl⟩
  | [y], h => ⟨(h y (.head _)).1, (h y (.head _)).2⟩
  | y :: y2 :: ys, h => by
    obtain ⟨h1, h2⟩ := join_as0 (ys := y2 :: ys) fun x hx => h x (.tail _ hx)
    obtain ⟨a, b⟩ := h y (.head _)
    have e : Str.join "" (y :: y2 :: ys) = y ++ ("" : Str) ++ Str.join "" (y2 :: ys) := rfl
    rw [e]
    refine ⟨?_, asA_app (asA_app b (by decide +kernel)) h2⟩
    rw [len_app, len_app, h1, a]
    show 1 + 0 + (y2 :: ys).length = _
    simp only [List.length_cons]
    omega
theorem join_asA {ys : List Str} (h : ∀ y ∈ ys, y.length = 1 ∧ asA y = true) : (Txt.join "" ys).length = ys.length ∧ asA (Txt.join "" ys) = true := by
  have e : Txt.join "" ys = Str.join "" ys := StrLaws.glued_eq_join _ _
  rw [e]
  exact join_as0 h
theorem sum_ones : ∀ {ys : List Str}, (∀ y ∈ ys, y.length = 1 ∧ asA y = true) → (ys.map (·.length)).sum = ys.length
  | [], _ => rfl
  | y :: ys, h => by
    rw [List.map_cons, List.sum_cons, (h y (.head _)).1, sum_ones fun x hx => h x (.tail _ hx), List.length_cons]
    omega
theorem up128 : ∀ c : Fin 128, (Txt.upper ⟨#[c.val]⟩).length ≤ 3 ∧ smC (Txt.upper ⟨#[c.val]⟩) = true := by decide +kernel
def spOneS : Sp := fun vs H Q _ => ∃ t o z, vs = [.ref t, .str z] ∧ H t = some o ∧ IsTape o ∧ 1 ≤ z.length ∧ z.length ≤ 1000 ∧ asA z = true ∧ ∀ c o', asA ⟨#[c]⟩ = true → IsTape o' → Q (.str ⟨#[c]⟩) (upd H t o')
/-- a text times 0 or 1 -/
def rRepS : R2 := fun x y H Q => ∃ z n, x = .str z ∧ y = .int n ∧ ((n = 0 ∧ Q (.str Str.empty) H) ∨ (n = 1 ∧ Q (.str z) H))
theorem op_repS {X : Cx} : OpR X (binaryOp .Mult) rRepS := by
  intro pins s σ H x y v u Q I rx ry h
  obtain ⟨z, n, rfl, rfl, h⟩ := h
  obtain ⟨t, rfl⟩ := rx
  obtain ⟨t', rfl⟩ := ry
  rcases h with ⟨rfl, q⟩ | ⟨rfl, q⟩
  · exact PySem.P.mul_str_none (by decide) (by decide) ⟨.str Str.empty, H, I.tok _, ⟨_, rfl⟩, q⟩
  · refine PySem.P.mul_str (by decide) (fun _ h => by simp at h) (fun _ h => by simp at h) ?_
    rw [if_neg (by decide), if_pos (by simp)]
    exact ⟨.str z, H, I, ⟨_, rfl⟩, q⟩
end Rm

set_option maxRecDepth 100000
set_option maxHeartbeats 4000000
namespace Rm
open PySem PySem.Spec L2
open PyProof.Rows hiding St

/-! ### enumerate(list, c) -/
def IteC (K : PySem.W.Frag) (c : Int) (a : Addr) : It where
  go := fun i H => ∃ (xs : List V) (x : V), SqL K H a xs ∧ xs[i]? = some x
  yld := fun i H v H' => ∃ T x, v = .ref T ∧ H T = none ∧ H' = upd H T (.tup [.int (c + ((i : Nat) : Int)), x]) ∧ ∀ xs, SqL K H a xs → xs[i]? = some x
  stop := fun i H => ∃ xs : List V, SqL K H a xs ∧ xs.length ≤ i
theorem turn_enumC {P : Program} {w : World} {K : PySem.W.Frag} {elts : List Expr} {kk : Nat} {tpos : Pos} {c : Int} (a e it : Addr) :
    Turn P w K (.Tuple elts kk tpos) (IteC K c a) [e, it] e (fun i h => (∃ old, IsEnum h e it (c + ((i : Nat) : Int)) old) ∧ h.IsListIter it a i ∧ e ≠ it ∧ e ≠ a ∧ it ≠ a) where
  mem := .head _
  obj := fun i h st b hb => by
    obtain ⟨⟨old, he⟩, ⟨o, ho, hc, hd⟩, _⟩ := st
    rcases List.mem_cons.mp hb with z | hb
    · subst z
      exact ⟨_, he, fun v q => nomatch q⟩
    · rw [List.mem_singleton.mp hb]
      exact ⟨o, ho, fun v q => by rw [hd] at q; cases q⟩
  keep := fun i h h' st k => by
    obtain ⟨⟨old, he⟩, hi, r⟩ := st
    exact ⟨⟨old, k e (.head _) _ he⟩, hi.at fun o q => k it (.tail _ (.head _)) o q, r⟩
  item := by
    intro X hP hw hK hc i pins s σ H E I hf st hg
    subst hP hw hK
    obtain ⟨⟨old, he⟩, hit, hne, hea, hia⟩ := st
    obtain ⟨xs, x, hq, hx⟩ := hg
    obtain ⟨its, rv, p, hz⟩ := I.list hq
    obtain ⟨u, hu, ru⟩ := rv.get hx
    have hu' : its.toArray[i]? = some u := by simpa using hu
    have hel : e < s.heap.objs.size := Heap.lt_size he
    have hil : it < s.heap.objs.size := by
      obtain ⟨_, q, _⟩ := hit
      exact Heap.lt_size q
    have lt : i < its.toArray.size := by
      rcases Nat.lt_or_ge i its.toArray.size with h | h
      · exact h
      · rw [Array.getElem?_eq_none h] at hu'
        cases hu'
    refine wpAny_pyNext_enum_itemC (Draws.list (A := X.A.in1) (show X.A.handled = none from I.ok.hd hc) it a (Ne.symm hia) its.toArray) he ⟨hit, p.isList⟩ lt hne (fun m => ?_) fun y h' tk hy ho hst hT hsz hk => ?_
    · rcases List.mem_cons.mp m with z | m
      · exact hne z
      · exact hea (List.mem_singleton.mp m)
    rw [hu'] at hy
    obtain rfl := Option.some.inj hy
    refine ⟨_, rfl, wpAny_letOwnedTupleGo_enum (s := { s with heap := h', toks := tk + 1 }) ho fun h'' he' sb => ?_⟩
    have hT2 : h''.get? s.heap.objs.size = some { cls := .type "tuple", data := .seq #[.int (c + (i : Int)) tk, u] } := (sb.2 _ (Nat.ne_of_gt hel)).trans hT
    have new : ObjOk X.prog X.w (upd H s.heap.objs.size (.tup [.int (c + ((i : Nat) : Int)), x])) h'' s.heap.objs.size (.tup [.int (c + ((i : Nat) : Int)), x]) :=
      ⟨show 2 ≤ sizeLine by decide, [.int (c + (i : Int)) tk, u], .cons ⟨_, rfl⟩ (.cons ru .nil), ⟨_, hT2, rfl, _, rfl⟩⟩
    have I1 : Inv X pins σ (upd H s.heap.objs.size (.tup [.int (c + ((i : Nat) : Int)), x])) { s with heap := h'', toks := tk + 1 } :=
      I.turnedNew (ch := [e, it]) (fun b ob hb q => by
        have nb : b ≠ e ∧ b ≠ it := ⟨fun z => hb (z ▸ .head _), fun z => hb (z ▸ .tail _ (.head _))⟩
        exact (sb.2 b nb.1).trans (hk b ob nb.1 nb.2 q)) hf (Nat.le_refl _) new
    refine ⟨.ref s.heap.objs.size, _, I1, rfl, ⟨_, x, rfl, I.hok.fresh (Nat.le_refl _), rfl, fun ys hy => by rw [I.list_inj hy hq]; exact hx⟩, ⟨⟨u, ?_⟩, hst.1.at fun o q => (sb.2 it (Ne.symm hne)).trans q, hne, hea, hia⟩, fun b hb => ?_⟩
    · have e1 : c + ((i + 1 : Nat) : Int) = c + (i : Int) + 1 := by omega
      rw [e1]
      exact he'
    · have hb' : b < s.heap.objs.size := by
        rcases List.mem_cons.mp hb with z | m
        · rw [z]; exact hel
        · rw [List.mem_singleton.mp m]; exact hil
      rw [upd_ne (Nat.ne_of_lt hb')]
      exact (hf b hb).1
  done := by
    intro X hP hw hK hc i pins s σ H E I hf st hg
    subst hP hw hK
    obtain ⟨⟨old, he⟩, hit, hne, hea, hia⟩ := st
    obtain ⟨xs, hq, hx⟩ := hg
    obtain ⟨its, rv, p, hz⟩ := I.list hq
    obtain ⟨f0, f1, f2, f3, f4, f5⟩ := hf it (.tail _ (.head _))
    have hl := rv.length
    refine wpAny_pyNext_enum_endD (P := fun _ _ => True) (n := i) (fp := [it, a]) (St := fun j h => j = i ∧ h.IsListIter it a i ∧ h.IsList a its.toArray) ⟨?_, ?_, ?_, ?_⟩ he ⟨rfl, hit, p.isList⟩ fun h' eb => ⟨rfl, I.turned (t' := s.toks) (fun b o hb q => eb b o hb q) f0 f1 f3 f4 f5⟩
    · exact fun _ _ st => let ⟨o, ho, _⟩ := st.2.1; ⟨o, ho⟩
    · exact fun _ _ _ st hk => ⟨st.1, st.2.1.at fun o e => hk it (.head _) o e, st.2.2.at fun o e => hk a (.tail _ (.head _)) o e⟩
    · exact fun j s Q E hi st hQ => absurd st.1 (Nat.ne_of_lt hi)
    · exact fun s Q E st hE => wpAny_nextOf_list_end (I.ok.hd hc) st.2.1 st.2.2 (by simp; omega) hE
  self := fun A i s Q E st h => let ⟨⟨_, he⟩, _⟩ := st; wpAny_pyIter_enum he h
def iEnumC (K : PySem.W.Frag) (c : Int) (ta : TA) : TI := fun σ H R => ta σ H fun vs H1 => ∃ a xs, vs = [.ref a, .int c] ∧ SqL K H1 a xs ∧ R (IteC K c a) H1
theorem pi_enumC {X : Cx} {c : Int} {e d : Expr} {ta : TA} {p pos tpos : Pos} {elts : List Expr} {kk : Nat} (hg : Gl X "enumerate") (hm : X.mg "enumerate" = none) (ha : PA X [e, d] ta) (c0 : -(2 ^ 63) ≤ c) (c1 : c < 2 ^ 63)
    (hs : starEach [e, d] X.env = (false, eval e X.env) :: starEach [d] X.env := by rfl) (hn : (backTo pos (starEach [d] X.env)).any (·.1) = false := by rfl) :
    PI X (.Tuple elts kk tpos) (.Call (.Name "enumerate" p) [e, d] [] pos) (iEnumC X.K c ta) := by
  refine ⟨fun pins s σ H R I h => ?_⟩
  refine Call_ (ld_blt I hg hm boot_enumerate (PyProof.Rows.callWith_type1 (thn (ha.run pos pins s σ H _ I h) fun us s1 ⟨vs, H1, I1, r1, q1⟩ => ?_) hs hn))
  obtain ⟨a, xs, ex, hq, q⟩ := q1
  subst ex
  obtain ⟨u1, u2, rfl, ra, rc⟩ := vals2 r1
  cases ra
  obtain ⟨t, rfl⟩ := rc
  obtain ⟨its, rv, p', hz⟩ := I1.list hq
  refine enum_begins (begins_list a its.toArray) p'.isList c0 c1 fun h' he hit hsz hk => wpAny_pyIter_enum he ?_
  have I2 : Inv X pins σ H1 { s1 with heap := h' } := I1.kept (t' := s1.toks) hk
  have al : a < s1.heap.objs.size := by
    obtain ⟨o, ho, _⟩ := p'.isList
    exact Heap.lt_size ho
  refine ⟨s1.heap.objs.size + 1, [s1.heap.objs.size + 1, s1.heap.objs.size], _, _, H1, rfl, I2, turn_enumC a (s1.heap.objs.size + 1) s1.heap.objs.size, ⟨⟨.none, by simpa using he⟩, ⟨_, hit, rfl, rfl⟩, Nat.succ_ne_self _, (Nat.ne_of_lt (Nat.lt_succ_of_lt al)).symm, (Nat.ne_of_lt al).symm⟩, fun b hb => ?_, q⟩
  have hle : s1.heap.objs.size ≤ b := by
    rcases List.mem_cons.mp hb with z | m
    · rw [z]; exact Nat.le_add_right _ _
    · rw [List.mem_singleton.mp m]; exact Nat.le_refl _
  exact I1.fpOk hle (I1.hok.fresh hle)
theorem walk_enumC {K : PySem.W.Frag} {a : Addr} {xs : List V} {c : Int} : Walk (IteC K c a) xs.length (fun H => SqL K H a xs) (YPair (fun i => some (.int (c + ((i : Nat) : Int)))) (fun i => xs[i]?)) := by
  refine ⟨fun i _ hi q => ⟨xs, xs[i], q, List.getElem?_eq_getElem hi⟩, fun _ q => ⟨xs, q, Nat.le_refl _⟩, fun i H v H' _ q y => ?_⟩
  obtain ⟨T, x, h1, h2, h3, h4⟩ := y
  exact ⟨T, _, x, h1, h2, h3, rfl, h4 xs q⟩
/-! ### str(x) of a number or a text -/
def wV : V → Option Str
  | .int i => some (Str.ofString (toString i))
  | .str z => some z
  | _ => none
def rStr : List V → Hp → VK → Prop := fun xs H Q => ∃ x z, xs = [x] ∧ wV x = some z ∧ (∀ i, x = .int i → i.natAbs.log2 < 1920) ∧ Q (.str z) H
theorem call_strIS {X : Cx} : CallR X (.type "str") rStr := by
  intro pins s σ H xs us Q I r h
  obtain ⟨x, z, rfl, e, b, q⟩ := h
  cases x with
  | int i =>
    cases e
    exact call_str_int pins s σ H _ us Q I r ⟨i, rfl, b i rfl, q⟩
  | str y =>
    cases e
    exact SkE.call_str_str pins s σ H _ us Q I r ⟨_, rfl, q⟩
  | _ => cases e
end Rm

set_option maxRecDepth 100000
set_option maxHeartbeats 4000000
namespace Rm
open PySem PySem.Spec L2
open PyProof.Rows hiding St

/-! ### numbers as texts -/
def sI (i : Int) : Str := Str.ofString (toString i)
theorem tl_sI (n : Nat) : (sI (n : Int)).cps.toList = TL.numL n := TL.tl_num n
theorem tl_sIneg {i : Int} (h : i < 0) : (sI i).cps.toList = 45 :: TL.numL i.natAbs := by
  have e2 := tl_sI i.natAbs
  unfold sI at e2 ⊢
  rw [signs_ofString] at e2 ⊢
  rw [toString_neg h, show (0 - i) = (i.natAbs : Int) by omega, String.toList_append, List.map_append, e2]
  rfl
def isDg (z : Str) : Bool := Txt.isascii z && (Txt.isdigit z && decide (z.length ≤ 30))
theorem dg128 : ∀ c : Fin 128, Unicode.isDigit c.val = (decide (48 ≤ c.val) && decide (c.val ≤ 57)) := by decide +kernel
theorem dg_iff {z : Str} : isDg z = true ↔ NumText.AllDigits z.cps.toList ∧ z.cps.toList ≠ [] ∧ z.length ≤ 30 := by
  unfold isDg Txt.isascii Txt.isdigit
  simp only [Bool.and_eq_true, decide_eq_true_eq, all_iff]
  constructor
  · rintro ⟨ha, ⟨hp, hd⟩, hl⟩
    refine ⟨fun c hc => ?_, fun e => ?_, hl⟩
    · have lt := ha c hc
      have h := dg128 ⟨c, lt⟩
      dsimp only at h
      rw [hd c hc] at h
      have h := h.symm
      simpa using h
    · have e2 : z.length = z.cps.toList.length := rfl
      rw [e] at e2
      have e3 : z.length = 0 := e2
      omega
  · rintro ⟨hd, hn, hl⟩
    have lt : ∀ c ∈ z.cps.toList, c < 128 := fun c hc => by
      have := hd c hc
      omega
    refine ⟨lt, ⟨?_, fun c hc => ?_⟩, hl⟩
    · have e2 : z.length = z.cps.toList.length := rfl
      have := List.length_pos_iff.mpr hn
      omega
    · have h := dg128 ⟨c, lt c hc⟩
      dsimp only at h
      rw [h]
      have := hd c hc
      simp [this]
theorem cut_hd (z : Str) : cutS z none (some (1 : Int)) = ⟨(z.cps.toList.take 1).toArray⟩ := by
  unfold cutS
  rw [show ((1 : Int)) = ((1 : Nat) : Int) from rfl, HT.sIx_nat, HT.sIx_none]
  have e : z.length = z.cps.toList.length := rfl
  congr 2
  rw [List.drop_zero, Nat.sub_zero]
  rcases Nat.lt_or_ge z.length 1 with h | h
  · have : z.cps.toList = [] := List.eq_nil_of_length_eq_zero (by omega)
    rw [this]
    simp
  · rw [Nat.min_eq_left h]
theorem cut_tl (z : Str) : cutS z (some (1 : Int)) none = ⟨(z.cps.toList.drop 1).toArray⟩ := by
  unfold cutS
  rw [show ((1 : Int)) = ((1 : Nat) : Int) from rfl, HT.sIx_nat, HT.sIx_none]
  have e : z.length = z.cps.toList.length := rfl
  congr 2
  rcases Nat.lt_or_ge z.length 1 with h | h
  · have : z.cps.toList = [] := List.eq_nil_of_length_eq_zero (by omega)
    rw [this]
    simp
  · rw [Nat.min_eq_left h, List.take_of_length_le (by rw [List.length_drop]; omega)]
/-- the digits of a word -/
def dgZ (w : Str) : Str := if cutS w none (some (1 : Int)) = "-" then cutS w (some (1 : Int)) none else w
theorem dgZ_neg {w : Str} {cs : List Nat} (h : w.cps.toList = 45 :: cs) : dgZ w = ⟨cs.toArray⟩ := by
  unfold dgZ
  rw [cut_hd, cut_tl, h]
  exact if_pos rfl
theorem dgZ_pos {w : Str} (h : ∀ cs, w.cps.toList ≠ 45 :: cs) : dgZ w = w := by
  unfold dgZ
  rw [cut_hd]
  refine if_neg fun e => ?_
  have e2 : w.cps.toList.take 1 = [45] := by
    have := congrArg (fun z : Str => z.cps.toList) e
    exact (by simpa using this : w.cps.toList.take 1 = (("-" : Str)).cps.toList)
  match hw : w.cps.toList with
  | [] => rw [hw] at e2; cases e2
  | c :: cs =>
    rw [hw] at e2
    have : c = 45 := by simpa using e2
    rw [this] at hw
    exact h cs hw
theorem numL_30 {n : Nat} (h : n < 10 ^ 30) : (TL.numL n).length ≤ 30 := TL.numL_len (by decide) h
theorem fold_lt : ∀ (cs : List Nat) (a : Nat), NumText.AllDigits cs → cs.foldl (fun acc c => acc * 10 + (c - 48)) a < (a + 1) * 10 ^ cs.length
  | [], a, _ => by simp
  | c :: cs, a, h => by
    have h2 := h c (.head _)
    have ih := fold_lt cs (a * 10 + (c - 48)) fun d hd => h d (.tail _ hd)
    rw [List.foldl_cons, List.length_cons, Nat.pow_succ]
    refine Nat.lt_of_lt_of_le ih ?_
    have e : (a + 1) * (10 ^ cs.length * 10) = (a * 10 + 10) * 10 ^ cs.length := by
      rw [Nat.mul_comm (10 ^ cs.length) 10, ← Nat.mul_assoc, Nat.add_mul a 1 10]
    rw [e]
    exact Nat.mul_le_mul_right _ (by omega)
theorem dv_lt {cs : List Nat} (h : NumText.AllDigits cs) : NumText.digitsVal cs < 10 ^ cs.length := by
  have z := fold_lt cs 0 h
  rw [Nat.zero_add, Nat.one_mul] at z
  exact z
theorem log_lt {n : Nat} (h : n < 10 ^ 30) : n.log2 < 100 := by
  by_cases e : n = 0
  · rw [e]; decide
  · exact (Nat.log2_lt e).2 (Nat.lt_trans h (by decide))
/-- a word whose digits are digits is a number's -/
theorem dg_int {w : Str} (h : isDg (dgZ w) = true) : ∃ v : Int, intText? w = some v ∧ v.natAbs < 10 ^ 30 ∧ w.length ≤ 31 := by
  obtain ⟨h1, h2, h3⟩ := dg_iff.mp h
  have lw : w.length = w.cps.toList.length := rfl
  by_cases hn : ∃ cs, w.cps.toList = 45 :: cs
  · obtain ⟨cs, e⟩ := hn
    rw [dgZ_neg e] at h1 h2 h3
    have e1 : (⟨cs.toArray⟩ : Str).cps.toList = cs := by simp
    rw [e1] at h1 h2
    have l3 : cs.length ≤ 30 := by
      have : (⟨cs.toArray⟩ : Str).length = cs.length := by
        show cs.toArray.size = _
        simp
      omega
    have lw2 : w.length ≤ 31 := by
      rw [lw, e, List.length_cons]
      omega
    refine ⟨_, intText_neg e h1 h2 (by omega), ?_, lw2⟩
    rw [Int.natAbs_neg, Int.natAbs_natCast]
    exact Nat.lt_of_lt_of_le (dv_lt h1) (Nat.pow_le_pow_right (by decide) l3)
  · have e : dgZ w = w := dgZ_pos fun cs q => hn ⟨cs, q⟩
    rw [e] at h1 h2 h3
    refine ⟨_, intText_digits h1 h2 (by omega), ?_, by omega⟩
    rw [Int.natAbs_natCast]
    exact Nat.lt_of_lt_of_le (dv_lt h1) (Nat.pow_le_pow_right (by decide) (by rw [← lw]; exact h3))
/-- the number that a word is -/
def numZ (w : Str) : Option Int := if isDg (dgZ w) = true then (match intText? w with
  | some v => if sI v = w then some v else none
  | none => none) else none
theorem sI_read {i : Int} (h : i.natAbs < 10 ^ 30) : numZ (sI i) = some i := by
  have hl := numL_30 h
  rcases Int.lt_or_le i 0 with n | p
  · have e := tl_sIneg n
    have d : isDg (dgZ (sI i)) = true := by
      rw [dgZ_neg e]
      refine dg_iff.mpr ⟨?_, ?_, ?_⟩
      · simpa using TL.numL_digits _
      · simpa using TL.numL_ne _
      · show (TL.numL i.natAbs).toArray.size ≤ 30
        simpa using hl
    unfold numZ
    rw [if_pos d, intText_neg e (TL.numL_digits _) (TL.numL_ne _) ?_]
    · dsimp only
      rw [TL.numL_val, show -((i.natAbs : Nat) : Int) = i by omega, if_pos rfl]
    · show (sI i).cps.toList.length ≤ 4300
      rw [e, List.length_cons]
      omega
  · obtain ⟨m, rfl⟩ := Int.eq_ofNat_of_zero_le p
    rw [Int.natAbs_natCast] at h hl
    have e := tl_sI m
    have d0 : dgZ (sI (m : Int)) = sI (m : Int) := dgZ_pos fun cs q => by
      rw [e] at q
      have := TL.numL_digits m 45 (by rw [q]; exact .head _)
      omega
    have l2 : (sI (m : Int)).length ≤ 30 := by
      show (sI (m : Int)).cps.toList.length ≤ 30
      rw [e]
      exact hl
    have d : isDg (dgZ (sI (m : Int))) = true := by
      rw [d0]
      refine dg_iff.mpr ⟨?_, ?_, l2⟩
      · rw [e]; exact TL.numL_digits _
      · rw [e]; exact TL.numL_ne _
    unfold numZ
    rw [if_pos d]
    have e3 : intText? (sI (m : Int)) = some (m : Int) := TL.int_num (by omega)
    rw [e3]
    exact if_pos rfl
theorem sI_free {i : Int} {c : Nat} (h : c < 45 ∨ 57 < c) : c ∉ (sI i).cps.toList := by
  rcases Int.lt_or_le i 0 with n | p
  · rw [tl_sIneg n]
    intro m
    rcases List.mem_cons.mp m with e | m
    · omega
    · exact TL.numL_free (by omega) m
  · obtain ⟨m, rfl⟩ := Int.eq_ofNat_of_zero_le p
    rw [tl_sI]
    exact TL.numL_free (by omega)
theorem sI_len {i : Int} (h : i.natAbs < 10 ^ 30) : 1 ≤ (sI i).length ∧ (sI i).length ≤ 31 := by
  have hl := numL_30 h
  rcases Int.lt_or_le i 0 with n | p
  · have e : (sI i).length = (45 :: TL.numL i.natAbs).length := by
      show (sI i).cps.toList.length = _
      rw [tl_sIneg n]
    rw [e, List.length_cons]
    omega
  · obtain ⟨m, rfl⟩ := Int.eq_ofNat_of_zero_le p
    rw [Int.natAbs_natCast] at hl
    have e : (sI (m : Int)).length = (TL.numL m).length := by
      show (sI (m : Int)).cps.toList.length = _
      rw [tl_sI]
    have := List.length_pos_iff.mpr (TL.numL_ne m)
    omega
end Rm

set_option maxRecDepth 100000
set_option maxHeartbeats 4000000
namespace Rm
open PySem PySem.Spec L2
open PyProof.Rows hiding St

/-! ### an operation's words -/
def wD : PyData → Str
  | .str z => z
  | .int i => sI i
  | _ => ""
def nD (w : Str) : PyData := match numZ w with
  | some v => .int v
  | none => .none
/-- what is read of the word at a place -/
def rdW (i : Nat) (w : Str) : PyData := if i = 1 ∨ i = 4 then nD w else .str w
def fndF : Nat → List Str → List PyData
  | _, [] => []
  | i, w :: ws => rdW i w :: fndF (i + 1) ws
def fnd (ws : List Str) : List PyData := fndF 0 ws
theorem fndF_len : ∀ (i : Nat) (ws : List Str), (fndF i ws).length = ws.length
  | _, [] => rfl
  | i, w :: ws => congrArg Nat.succ (fndF_len (i + 1) ws)
def lnT (ds : List PyData) : Str := Txt.join " " (ds.map wD)
def hisT (ops : List (List PyData)) : Str := Txt.join "\n" (ops.map lnT)

/-- a word that is none of the signs between -/
structure Wk1 (z : Str) : Prop where
  l1 : 1 ≤ z.length
  l31 : z.length ≤ 31
  sp : 32 ∉ z.cps.toList
  nl : 10 ∉ z.cps.toList
  sm : asA z = true
def wkB (z : Str) : Bool := decide (1 ≤ z.length) && (decide (z.length ≤ 31) && (z.cps.toList.all fun c => decide (c ≠ 32) && (decide (c ≠ 10) && decide (c < 128))))
theorem Wk1.of {z : Str} (h : wkB z = true) : Wk1 z := by
  unfold wkB at h
  simp only [Bool.and_eq_true, decide_eq_true_eq, List.all_eq_true] at h
  obtain ⟨h1, h2, h3⟩ := h
  refine ⟨h1, h2, fun m => (h3 _ m).1 rfl, fun m => (h3 _ m).2.1 rfl, ?_⟩
  unfold asA
  exact List.all_eq_true.mpr fun c hc => decide_eq_true (h3 c hc).2.2
theorem wk_name {z : Str} (h : lnZ z = true) : Wk1 z := by
  unfold lnZ at h
  simp only [Bool.and_eq_true, decide_eq_true_eq, List.all_eq_true] at h
  obtain ⟨h1, h2, h3⟩ := h
  refine ⟨h1, by omega, fun m => ?_, fun m => ?_, ?_⟩
  · have := (h3 _ m).1
    omega
  · have := (h3 _ m).1
    omega
  · unfold asA
    refine List.all_eq_true.mpr fun c hc => decide_eq_true ?_
    have := (h3 c hc).2
    exact Nat.lt_of_le_of_lt this (by decide)
theorem wk_num {i : Int} (h : i.natAbs < 10 ^ 30) : Wk1 (sI i) := by
  obtain ⟨h1, h2⟩ := sI_len h
  refine ⟨h1, h2, sI_free (by decide), sI_free (by decide), ?_⟩
  unfold asA
  refine List.all_eq_true.mpr fun c hc => decide_eq_true ?_
  by_cases l : c < 45 ∨ 57 < c
  · exact absurd hc (sI_free l)
  · exact Nat.lt_of_le_of_lt (show c ≤ 57 by omega) (by decide)
theorem wk_aln {z : Str} (h : z ∈ ALN) : Wk1 z := by
  have a : ALN.all wkB = true := by decide +kernel
  exact Wk1.of (List.all_eq_true.mp a z h)
theorem wk_wnr {z : Str} (h : z ∈ WNR) : Wk1 z := by
  have a : WNR.all wkB = true := by decide +kernel
  exact Wk1.of (List.all_eq_true.mp a z h)
theorem wk_mode {z : Str} (h : (rkS z).isSome = true) : Wk1 z := by
  unfold rkS at h
  split at h
  · rename_i e; rw [e]; exact Wk1.of (by decide +kernel)
  split at h
  · rename_i e; rw [e]; exact Wk1.of (by decide +kernel)
  split at h
  · rename_i e; rw [e]; exact Wk1.of (by decide +kernel)
  split at h
  · rename_i e; rw [e]; exact Wk1.of (by decide +kernel)
  · cases h
/-! ### the forms -/
inductive Shp : List PyData → Prop
  | one {z : Str} (h : Wk1 z) : Shp [.str z]
  | two {z : Str} {i : Int} (h : Wk1 z) (hi : i.natAbs < 10 ^ 30) : Shp [.str z, .int i]
  | lock {z n m : Str} {i : Int} (h : Wk1 z) (hi : i.natAbs < 10 ^ 30) (hn : Wk1 n) (hm : Wk1 m) : Shp [.str z, .int i, .str n, .str m]
  | chg {z n m : Str} {i v : Int} (h : Wk1 z) (hi : i.natAbs < 10 ^ 30) (hn : Wk1 n) (hm : Wk1 m) (hv : v.natAbs < 10 ^ 30) : Shp [.str z, .int i, .str n, .str m, .int v]
theorem isW_int {lo hi : Int} {d : PyData} (h : isW lo hi d = true) : ∃ i, d = .int i ∧ lo ≤ i ∧ i ≤ hi := by
  cases d with
  | int i =>
    have h : (decide (lo ≤ i) && decide (i ≤ hi)) = true := h
    simp only [Bool.and_eq_true, decide_eq_true_eq] at h
    exact ⟨i, rfl, h⟩
  | _ => cases h
theorem nmD_str {d : PyData} (h : nmD d = true) : ∃ z, d = .str z ∧ Wk1 z := by
  cases d with
  | str z => exact ⟨z, rfl, wk_name h⟩
  | _ => cases h
theorem rkm_str {d : PyData} (h : (rkD d).isSome = true) : ∃ z, d = .str z ∧ Wk1 z := by
  cases d with
  | str z => exact ⟨z, rfl, wk_mode h⟩
  | _ => cases h
theorem ch_str {d : PyData} (h : isCh d = true) : ∃ z, d = .str z ∧ Wk1 z := by
  cases d with
  | str z =>
    have h : (decide (z = "change") || decide (z = "replace")) = true := h
    simp only [Bool.or_eq_true, decide_eq_true_eq] at h
    rcases h with e | e
    · rw [e]; exact ⟨_, rfl, Wk1.of (by decide +kernel)⟩
    · rw [e]; exact ⟨_, rfl, Wk1.of (by decide +kernel)⟩
  | _ => cases h
theorem shpL {z : Str} {i : Int} {r : List PyData} (hi : i.natAbs < 10 ^ 30) (h : opL z r = true) : Shp (.str z :: .int i :: r) := by
  unfold opL at h
  by_cases hz : z ∈ WNR
  · rw [if_pos hz] at h
    match r, h with
    | [], _ => exact .two (wk_wnr hz) hi
  rw [if_neg hz] at h
  by_cases hz : z = "lock"
  · rw [if_pos hz] at h
    subst hz
    match r, h with
    | [n, m], h =>
      have h : (nmD n && (rkD m).isSome) = true := h
      rw [Bool.and_eq_true] at h
      obtain ⟨n', rfl, hn⟩ := nmD_str h.1
      obtain ⟨m', rfl, hm⟩ := rkm_str h.2
      exact .lock (Wk1.of (by decide +kernel)) hi hn hm
  rw [if_neg hz] at h
  by_cases hz : z = "change"
  · rw [if_pos hz] at h
    subst hz
    match r, h with
    | [n, m, v], h =>
      have h : (nmD n && (isCh m && isW vlo vhi v)) = true := h
      rw [Bool.and_eq_true, Bool.and_eq_true] at h
      obtain ⟨n', rfl, hn⟩ := nmD_str h.1
      obtain ⟨m', rfl, hm⟩ := ch_str h.2.1
      obtain ⟨v, rfl, v1, v2⟩ := isW_int h.2.2
      have e3 : vlo = -999999999999999999999999999999 := by decide
      have e4 : vhi = 999999999999999999999999999999 := by decide
      exact .chg (Wk1.of (by decide +kernel)) hi hn hm (by omega)
  rw [if_neg hz] at h
  cases h
theorem shp_of {ds : List PyData} (h : opD (.tuple ds) = true) : Shp ds := by
  match ds, h with
  | [], h => cases h
  | .str z :: r, h =>
    have h1 : opR z r = true := h
    clear h
    unfold opR at h1
    by_cases hz : z ∈ ALN
    · rw [if_pos hz] at h1
      match r, h1 with
      | [], _ => exact .one (wk_aln hz)
    rw [if_neg hz] at h1
    by_cases hz : z = "horizon"
    · rw [if_pos hz] at h1
      subst hz
      match r, h1 with
      | [x], h2 =>
        obtain ⟨i, rfl, h3, h4⟩ := isW_int h2
        exact .two (Wk1.of (by decide +kernel)) (by omega)
    rw [if_neg hz] at h1
    match r, h1 with
    | x :: r, h2 =>
      have h3 : (isW 1 1000000 x && opL z r) = true := h2
      rw [Bool.and_eq_true] at h3
      obtain ⟨i, rfl, h4, h5⟩ := isW_int h3.1
      exact shpL (by omega) h3.2
/-- a leaf -/
structure Lf (d : PyData) : Prop where
  wk : Wk1 (wD d)
  v : (∃ z, d = .str z) ∨ ∃ i : Int, d = .int i ∧ i.natAbs < 10 ^ 30
theorem shp_lf {ds : List PyData} (h : Shp ds) : ∀ d ∈ ds, Lf d := by
  have S : ∀ {z : Str}, Wk1 z → Lf (.str z) := fun w => ⟨w, .inl ⟨_, rfl⟩⟩
  have I : ∀ {i : Int}, i.natAbs < 10 ^ 30 → Lf (.int i) := fun w => ⟨wk_num w, .inr ⟨_, rfl, w⟩⟩
  intro d hd
  cases h with
  | one h =>
    rw [List.mem_singleton.mp hd]; exact S h
  | two h hi =>
    simp only [List.mem_cons, List.not_mem_nil, or_false] at hd
    rcases hd with rfl | rfl
    · exact S h
    · exact I hi
  | lock h hi hn hm =>
    simp only [List.mem_cons, List.not_mem_nil, or_false] at hd
    rcases hd with rfl | rfl | rfl | rfl
    · exact S h
    · exact I hi
    · exact S hn
    · exact S hm
  | chg h hi hn hm hv =>
    simp only [List.mem_cons, List.not_mem_nil, or_false] at hd
    rcases hd with rfl | rfl | rfl | rfl | rfl
    · exact S h
    · exact I hi
    · exact S hn
    · exact S hm
    · exact I hv
theorem shp_len {ds : List PyData} (h : Shp ds) : 1 ≤ ds.length ∧ ds.length ≤ 5 := by
  cases h <;> simp
theorem nD_sI {i : Int} (h : i.natAbs < 10 ^ 30) : nD (sI i) = .int i := by
  unfold nD
  rw [sI_read h]
theorem shp_back {ds : List PyData} (h : Shp ds) : fnd (ds.map wD) = ds := by
  cases h with
  | one h => rfl
  | two h hi =>
    show [PyData.str _, nD (sI _)] = _
    rw [nD_sI hi]
    rfl
  | lock h hi hn hm =>
    show [PyData.str _, nD (sI _), .str _, .str _] = _
    rw [nD_sI hi]
    rfl
  | chg h hi hn hm hv =>
    show [PyData.str _, nD (sI _), .str _, .str _, nD (sI _)] = _
    rw [nD_sI hi, nD_sI hv]
    rfl
/-! ### joined texts -/
theorem join_mem {y : Str} {c : Nat} : ∀ {ps : List Str}, c ∈ (Txt.join y ps).cps.toList → c ∈ y.cps.toList ∨ ∃ p ∈ ps, c ∈ p.cps.toList := by
  intro ps h
  rw [TL.join_eq] at h
  have h : c ∈ TL.tl (Str.join y ps) := h
  rw [TL.tl_join] at h
  have g : ∀ (l : List Str), c ∈ TL.joinL (TL.tl y) (l.map TL.tl) → c ∈ y.cps.toList ∨ ∃ p ∈ l, c ∈ p.cps.toList := by
    intro l
    induction l with
    | nil => intro h; cases h
    | cons p l ih =>
      intro h
      cases l with
      | nil => exact .inr ⟨p, .head _, h⟩
      | cons q r =>
        have h : c ∈ TL.tl p ++ (TL.tl y ++ TL.joinL (TL.tl y) ((q :: r).map TL.tl)) := h
        rcases List.mem_append.mp h with h | h
        · exact .inr ⟨p, .head _, h⟩
        rcases List.mem_append.mp h with h | h
        · exact .inl h
        · rcases ih h with h | ⟨p', h1, h2⟩
          · exact .inl h
          · exact .inr ⟨p', .tail _ h1, h2⟩
  exact g ps h
theorem join_len {y : Str} {n : Nat} : ∀ {ps : List Str}, (∀ p ∈ ps, p.length ≤ n) → (Txt.join y ps).length ≤ ps.length * (n + y.length) := by
  intro ps h
  rw [TL.join_eq]
  induction ps with
  | nil => exact Nat.zero_le _
  | cons p l ih =>
    cases l with
    | nil =>
      show p.length ≤ _
      have := h p (.head _)
      simp
      omega
    | cons q r =>
      have e : Str.join y (p :: q :: r) = p ++ y ++ Str.join y (q :: r) := rfl
      rw [e, len_app, len_app]
      have := ih fun x hx => h x (.tail _ hx)
      have h1 := h p (.head _)
      rw [List.length_cons, Nat.add_mul, Nat.one_mul]
      omega
theorem join_len1 {y : Str} {p : Str} {l : List Str} : p.length ≤ (Txt.join y (p :: l)).length := by
  rw [TL.join_eq]
  cases l with
  | nil => exact Nat.le_refl _
  | cons q r =>
    have e : Str.join y (p :: q :: r) = p ++ y ++ Str.join y (q :: r) := rfl
    rw [e, len_app, len_app]
    omega
theorem sum_le {n : Nat} : ∀ {ps : List Str}, (∀ p ∈ ps, p.length ≤ n) → (ps.map (·.length)).sum ≤ ps.length * n
  | [], _ => Nat.zero_le _
  | p :: ps, h => by
    rw [List.map_cons, List.sum_cons, List.length_cons, Nat.add_mul, Nat.one_mul]
    have := h p (.head _)
    have := sum_le fun x hx => h x (.tail _ hx)
    omega
theorem sp_sep : ∃ S, TL.tl (" " : Str) = 32 :: S := ⟨[], by decide +kernel⟩
theorem nl_sep : ∃ S, TL.tl ("\n" : Str) = 10 :: S := ⟨[], by decide +kernel⟩
theorem sp_of {c : Nat} (h : c ∈ (" " : Str).cps.toList) : c = 32 := by
  have e : (" " : Str).cps.toList = [32] := by decide +kernel
  rw [e] at h
  exact List.mem_singleton.mp h
theorem wl_le {ds : List PyData} (h : Shp ds) : ∀ w ∈ ds.map wD, w.length ≤ 31 := fun w hw => by
  obtain ⟨d, hd, rfl⟩ := List.mem_map.mp hw
  exact (shp_lf h d hd).wk.l31
theorem lnT_len {ds : List PyData} (h : Shp ds) : 1 ≤ (lnT ds).length ∧ (lnT ds).length ≤ 160 := by
  have l := join_len (y := " ") (wl_le h)
  have h5 := shp_len h
  have e1 : (" " : Str).length = 1 := by decide +kernel
  rw [List.length_map, e1] at l
  refine ⟨?_, ?_⟩
  · cases ds with
    | nil => cases h
    | cons d ds =>
      have := (shp_lf h d (.head _)).wk.l1
      exact Nat.le_trans this join_len1
  · have : ds.length * (31 + 1) ≤ 5 * 32 := Nat.mul_le_mul_right _ h5.2
    exact Nat.le_trans l this
theorem lnT_nl {ds : List PyData} (h : Shp ds) : 10 ∉ (lnT ds).cps.toList := fun m => by
  rcases join_mem m with m | ⟨p, hp, m⟩
  · have := sp_of m
    omega
  · obtain ⟨d, hd, rfl⟩ := List.mem_map.mp hp
    exact (shp_lf h d hd).wk.nl m
theorem lnT_split {ds : List PyData} (h : Shp ds) : Txt.split (lnT ds) " " = ds.map wD := by
  obtain ⟨S, e⟩ := sp_sep
  refine TL.split_join e (by decide +kernel) ?_ fun p hp => ?_
  · intro e
    have := List.map_eq_nil_iff.mp e
    subst this
    cases h
  · obtain ⟨d, hd, rfl⟩ := List.mem_map.mp hp
    exact (shp_lf h d hd).wk.sp
theorem hisT_len {ops : List (List PyData)} (h : ∀ ds ∈ ops, Shp ds) : (hisT ops).length ≤ ops.length * 161 := by
  have e1 : ("\n" : Str).length = 1 := by decide +kernel
  have l := join_len (y := "\n") (n := 160) (ps := ops.map lnT) fun w hw => by
    obtain ⟨d, hd, rfl⟩ := List.mem_map.mp hw
    exact (lnT_len (h d hd)).2
  rw [List.length_map, e1] at l
  exact l
/-- the lines of a text -/
def linesZ (z : Str) : List Str := if 0 < z.length then Txt.split z "\n" else []
theorem hisT_lines {ops : List (List PyData)} (h : ∀ ds ∈ ops, Shp ds) : linesZ (hisT ops) = ops.map lnT := by
  unfold linesZ
  cases ops with
  | nil => exact if_neg (by decide +kernel)
  | cons ds ops =>
    have h1 : 0 < (hisT (ds :: ops)).length := Nat.lt_of_lt_of_le (lnT_len (h ds (.head _))).1 join_len1
    rw [if_pos h1]
    obtain ⟨S, e⟩ := nl_sep
    refine TL.split_join e (by decide +kernel) (by simp) fun p hp => ?_
    obtain ⟨d, hd, rfl⟩ := List.mem_map.mp hp
    exact lnT_nl (h d hd)
theorem hisT_inj {o p : List (List PyData)} (h : ∀ ds ∈ o, Shp ds) (h' : ∀ ds ∈ p, Shp ds) (e : hisT o = hisT p) : o = p := by
  have l := hisT_lines h
  rw [e, hisT_lines h'] at l
  have g : ∀ (o : List (List PyData)), (∀ ds ∈ o, Shp ds) → (o.map lnT).map (fun z => fnd (Txt.split z " ")) = o := by
    intro o
    induction o with
    | nil => intro _; rfl
    | cons d o ih =>
      intro h
      rw [List.map_cons, List.map_cons, ih fun x hx => h x (.tail _ hx), lnT_split (h d (.head _)), shp_back (h d (.head _))]
  have := congrArg (List.map fun z => fnd (Txt.split z " ")) l
  rw [g p h', g o h] at this
  exact this.symm
/-! ### small enough -/
theorem sv_lf {d : PyData} (h : Lf d) : Sv d ∧ d.weight ≤ 100 ∧ d.depth = 0 := by
  obtain ⟨wk, z⟩ := h
  rcases z with ⟨z, rfl⟩ | ⟨i, rfl, hi⟩
  · have h31 := wk.l31
    have e : z.cps.size = z.length := rfl
    refine ⟨⟨rfl, ?_, ?_, ?_⟩, ?_, ?_⟩
    · exact asA_smC wk.sm
    · simp only [PyData.weight]
      have : (wD (.str z)).length = z.length := rfl
      omega
    · simp [PyData.depth]
    · simp only [PyData.weight]
      have : (wD (.str z)).length = z.length := rfl
      omega
    · simp [PyData.depth]
  · have hl := log_lt hi
    refine ⟨⟨?_, ?_, ?_, ?_⟩, ?_, ?_⟩
    · simp only [PyData.showable]
      exact decide_eq_true (by omega)
    · simp only [PyData.leavesShort]
      refine decide_eq_true ?_
      have := (sI_len hi).2
      have e : (PyData.shown (.int i)) = sI i := by
        simp only [PyData.shown]
        rfl
      rw [e]
      omega
    · simp only [PyData.weight]
      split <;> omega
    · simp [PyData.depth]
    · simp only [PyData.weight]
      split <;> omega
    · simp [PyData.depth]
theorem lf_all : ∀ {ds : List PyData}, (∀ d ∈ ds, Lf d) → PyData.weightAll ds ≤ 101 * ds.length ∧ PyData.depthAll ds = 0
  | [], _ => ⟨by simp [PyData.weightAll], by simp [PyData.depthAll]⟩
  | d :: ds, h => by
    obtain ⟨_, a, b⟩ := sv_lf (h d (.head _))
    obtain ⟨c, e⟩ := lf_all (ds := ds) fun x m => h x (.tail _ m)
    simp only [PyData.weightAll, PyData.depthAll, List.length_cons]
    omega
theorem sv_op {ds : List PyData} (h : Shp ds) : Sv (.tuple ds) := by
  have l := shp_lf h
  obtain ⟨a, b, c, e⟩ := sv_dep (ds := ds) fun d hd => (sv_lf (l d hd)).1
  obtain ⟨w, dp⟩ := lf_all l
  have := (shp_len h).2
  refine ⟨by simpa [PyData.showable] using a, by simpa [PyData.leavesShort] using b, ?_, ?_⟩
  · simp only [PyData.weight]; omega
  · simp only [PyData.depth]; omega
theorem sm_his {ops : List (List PyData)} (h : ∀ ds ∈ ops, Shp ds) (hl : ops.length ≤ 60) : Sm (.tuple (ops.map .tuple)) := by
  obtain ⟨a, b, c, e⟩ := sv_dep (ds := ops.map .tuple) fun d hd => by
    obtain ⟨o, ho, rfl⟩ := List.mem_map.mp hd
    exact sv_op (h o ho)
  rw [List.length_map] at c
  refine ⟨by simpa [PyData.showable] using a, by simpa [PyData.leavesShort] using b, ?_, ?_⟩
  · simp only [PyData.weight]; omega
  · simp only [PyData.depth]; omega
theorem as_ok {z : Str} (h : asA z = true) : PyData.strOk z = true := by
  unfold asA at h
  unfold PyData.strOk
  rw [← Array.all_toList, List.all_eq_true]
  intro c hc
  have := of_decide_eq_true (List.all_eq_true.mp h c hc)
  exact decide_eq_true (Nat.lt_trans this (by decide))
theorem as_hisT {ops : List (List PyData)} (h : ∀ ds ∈ ops, Shp ds) : asA (hisT ops) = true := by
  unfold asA
  refine List.all_eq_true.mpr fun c hc => decide_eq_true ?_
  have e1 : ∀ c ∈ ("\n" : Str).cps.toList, c < 128 := by decide +kernel
  have e2 : ∀ c ∈ (" " : Str).cps.toList, c < 128 := by decide +kernel
  rcases join_mem hc with m | ⟨p, hp, m⟩
  · exact e1 c m
  · obtain ⟨ds, hd, rfl⟩ := List.mem_map.mp hp
    rcases join_mem m with m | ⟨p, hp, m⟩
    · exact e2 c m
    · obtain ⟨d, hd2, rfl⟩ := List.mem_map.mp hp
      have s := (shp_lf (h ds hd) d hd2).wk.sm
      unfold asA at s
      exact of_decide_eq_true (List.all_eq_true.mp s c m)
theorem sm_text {z : Str} (h : asA z = true) (hl : z.length ≤ 100000) : Sm (.str z) := by
  have e : z.cps.size = z.length := rfl
  refine ⟨rfl, asA_smC h, ?_, ?_⟩
  · simp only [PyData.weight]; omega
  · simp [PyData.depth]
theorem lay_all : ∀ {ds : List PyData}, (∀ d ∈ ds, Lf d) → PyData.canLayAll0 ds = true
  | [], _ => by simp [PyData.canLayAll0]
  | d :: ds, h => by
    have e := lay_all (ds := ds) fun x m => h x (.tail _ m)
    have l := h d (.head _)
    rcases l.v with ⟨z, rfl⟩ | ⟨i, rfl, _⟩
    · simp only [PyData.canLayAll0, PyData.canLay0, e, Bool.and_true]
      exact as_ok l.wk.sm
    · simp only [PyData.canLayAll0, PyData.canLay0, e, Bool.and_true]
theorem lay_ops : ∀ {ops : List (List PyData)}, (∀ ds ∈ ops, Shp ds) → PyData.canLayAll0 (ops.map .tuple) = true ∧ PyData.depthAll (ops.map .tuple) ≤ 5
  | [], _ => by simp [PyData.canLayAll0, PyData.depthAll]
  | d :: ds, h => by
    obtain ⟨e1, e2⟩ := lay_ops (ops := ds) fun x m => h x (.tail _ m)
    have l := shp_lf (h d (.head _))
    obtain ⟨_, dp⟩ := lf_all l
    simp only [List.map_cons, PyData.canLayAll0, PyData.canLay0, e1, lay_all l, PyData.depthAll, PyData.depth, dp, Bool.and_true, true_and]
    omega
theorem shaped_his {ops : List (List PyData)} (h : ∀ ds ∈ ops, Shp ds) : SeqAt.shaped (.tuple (ops.map .tuple)) = true := by
  obtain ⟨e1, e2⟩ := lay_ops h
  unfold SeqAt.shaped
  rw [Bool.and_eq_true]
  refine ⟨by simpa only [PyData.canLay0] using e1, decide_eq_true ?_⟩
  simp only [PyData.depth]
  omega
end Rm

set_option maxRecDepth 100000
set_option maxHeartbeats 4000000
namespace Rm
open PySem PySem.Spec L2
open PyProof.Rows hiding St

/-! ### join, with the frame named -/
def rJoin (K : PySem.W.Frag) : V → List V → Hp → VK → Prop := fun x vs H Q => ∃ (sep : Str) (l : Addr) (zs : List Str), x = .str sep ∧ vs = [.ref l] ∧ (SqL K H l (zs.map V.str) ∨ SqT K H l (zs.map V.str)) ∧
  (zs.map (·.length)).sum + zs.length * sep.length ≤ 16777216 ∧ Q (.str (Txt.join sep zs)) H
theorem mt_joinK {X : Cx} : MtR X "str.join" (rJoin X.K) := mt_join
/-! ### data without dicts, as the deep == reads it -/
mutual
theorem dp_of {K : PySem.W.Frag} {H : Hp} : ∀ {d : PyData} {v : V}, d.canLay0 = true → Dx K H v d → Dp K H v d
  | .none, _, _, .non => .non
  | .bool _, _, _, .bl b => .bl b
  | .int _, _, _, .int i => .int i
  | .str _, _, _, .str z => .str z
  | .list _, _, h, .lst hs ha => .lst hs (dpAll_of (by simpa only [PyData.canLay0] using h) ha)
  | .tuple _, _, h, .tup hs ha => .tup hs (dpAll_of (by simpa only [PyData.canLay0] using h) ha)
  | .dict _, _, h, _ => by simp [PyData.canLay0] at h
theorem dpAll_of {K : PySem.W.Frag} {H : Hp} : ∀ {ds : List PyData} {vs : List V}, PyData.canLayAll0 ds = true → DxAll K H vs ds → DpAll K H vs ds
  | [], _, _, .nil => .nil
  | _ :: _, _, h, .cons hx ha => by
    simp only [PyData.canLayAll0, Bool.and_eq_true] at h
    exact .cons (dp_of h.1 hx) (dpAll_of h.2 ha)
end
theorem dp_his {K : PySem.W.Frag} {H : Hp} {x : V} {ops : List (List PyData)} (h : ∀ ds ∈ ops, Shp ds) (hx : Dx K H x (.tuple (ops.map .tuple))) : Dp K H x (.tuple (ops.map .tuple)) :=
  dp_of (by simpa only [PyData.canLay0] using (lay_ops h).1) hx
theorem eqv_his {ops : List (List PyData)} (h : ∀ ds ∈ ops, Shp ds) : PyData.eqv (.tuple (ops.map .tuple)) (.tuple (ops.map .tuple)) = true :=
  SeqAt.eqv_refl _ (by simpa only [PyData.canLay0] using (lay_ops h).1)
/-! ### histories stay where tuples stay -/
def TupK (H H' : Hp) : Prop := ∀ b xs, Rd H b (.tup xs) → Rd H' b (.tup xs)
theorem TupK.of {H H' : Hp} (s : Same H H') : TupK H H' := fun b xs h => SameR.of s b _ h
theorem TupK.trans {H H' H2 : Hp} (a : TupK H H') (b : TupK H' H2) : TupK H H2 := fun x xs h => b x xs (a x xs h)
theorem TupK.put {H : Hp} {q : Addr} {o u : HO} (hq : H q = some u) (h1 : ∀ xs, u ≠ .tup xs) (h2 : ∀ o' w, u ≠ .frz o' w) : TupK H (upd H q o) := fun b xs h => by
  have ne : b ≠ q := fun e => by
    rw [e] at h
    rcases h with h | ⟨o', h⟩
    · rw [hq] at h; exact h1 xs (Option.some.inj h)
    · rw [hq] at h; exact h2 o' _ (Option.some.inj h)
  rcases h with h | ⟨o', h⟩
  · exact .inl ((upd_ne ne).trans h)
  · exact .inr ⟨o', (upd_ne ne).trans h⟩
theorem TupK.nxt {H H' : Hp} {t : Addr} {o : HO} (ht : H t = some o) (ho : IsTape o) (n : Nxt t H H') : TupK H H' := fun b xs h => by
  obtain ⟨dg, mx, rfl, _⟩ := ho
  have ne : b ≠ t := fun e => by
    rw [e] at h
    rcases h with h | ⟨o', h⟩
    · rw [ht] at h; cases h
    · rw [ht] at h; cases h
  rcases h with h | ⟨o', h⟩
  · exact .inl (n.keep b _ h ne)
  · exact .inr ⟨o', n.keep b _ h ne⟩
theorem lf_dxa {K : PySem.W.Frag} {H H' : Hp} : ∀ {xs : List V} {ds : List PyData}, (∀ d ∈ ds, Lf d) → DxAll K H xs ds → DxAll K H' xs ds
  | _, _, _, .nil => .nil
  | _, _, h, .cons hx ha => by
    refine .cons ?_ (lf_dxa (fun d hd => h d (.tail _ hd)) ha)
    rcases (h _ (.head _)).v with ⟨z, rfl⟩ | ⟨i, rfl, _⟩
    · cases hx
      exact .str _
    · cases hx
      exact .int _
theorem his_all {K : PySem.W.Frag} {H H' : Hp} (k : TupK H H') : ∀ {ops : List (List PyData)} {vs : List V}, (∀ ds ∈ ops, Shp ds) → DxAll K H vs (ops.map .tuple) → DxAll K H' vs (ops.map .tuple)
  | [], _, _, .nil => .nil
  | ds :: ops, _, h, .cons hx ha => by
    refine .cons ?_ (his_all k (fun d hd => h d (.tail _ hd)) ha)
    cases hx with
    | tup hs hl => exact .tup (hs.imp (k _ _) id) (lf_dxa (shp_lf (h ds (.head _))) hl)
theorem his_keep {K : PySem.W.Frag} {H H' : Hp} (k : TupK H H') {ops : List (List PyData)} {x : V} (h : ∀ ds ∈ ops, Shp ds) (hx : Dx K H x (.tuple (ops.map .tuple))) : Dx K H' x (.tuple (ops.map .tuple)) := by
  cases hx with
  | tup hs ha => exact .tup (hs.imp (k _ _) id) (his_all k h ha)
end Rm

set_option maxRecDepth 100000
set_option maxHeartbeats 4000000
namespace Rm
open PySem PySem.Spec L2
open PyProof.Rows hiding St

/-! ### texts cut at a sign -/
def tot (ys : List Str) : Nat := (ys.map fun y => y.length + 1).sum
theorem tot_cons (y : Str) (ys : List Str) : tot (y :: ys) = y.length + 1 + tot ys := by
  unfold tot
  rw [List.map_cons, List.sum_cons]
theorem tot_app (xs ys : List Str) : tot (xs ++ ys) = tot xs + tot ys := by
  unfold tot
  rw [List.map_append, List.sum_append]
theorem tot_mem {y : Str} : ∀ {ys : List Str}, y ∈ ys → y.length + 1 ≤ tot ys
  | x :: ys, h => by
    rw [tot_cons]
    rcases List.mem_cons.mp h with rfl | h
    · omega
    · have := tot_mem h
      omega
theorem tot_len : ∀ (ys : List Str), ys.length ≤ tot ys
  | [] => Nat.le_refl _
  | y :: ys => by
    rw [tot_cons, List.length_cons]
    have := tot_len ys
    omega
theorem tot_take (ys : List Str) (n : Nat) : tot (ys.take n) ≤ tot ys := by
  have h := tot_app (ys.take n) (ys.drop n)
  rw [List.take_append_drop] at h
  omega
theorem tot_drop (ys : List Str) (n : Nat) : tot (ys.drop n) ≤ tot ys := by
  have h := tot_app (ys.take n) (ys.drop n)
  rw [List.take_append_drop] at h
  omega
theorem tot_rev (ys : List Str) : tot ys.reverse = tot ys := by
  unfold tot
  rw [List.map_reverse, List.sum_reverse]
theorem join_tot {y : Str} (h : y.length ≤ 1) : ∀ (ys : List Str), (Txt.join y ys).length ≤ tot ys := by
  intro ys
  rw [TL.join_eq]
  induction ys with
  | nil => exact Nat.zero_le _
  | cons p l ih =>
    cases l with
    | nil =>
      rw [tot_cons]
      show p.length ≤ _
      omega
    | cons q r =>
      have e : Str.join y (p :: q :: r) = p ++ y ++ Str.join y (q :: r) := rfl
      rw [e, len_app, len_app, tot_cons]
      omega
theorem tot_join {y : Str} (h : y.length = 1) : ∀ (ys : List Str), tot ys ≤ (Txt.join y ys).length + 1 := by
  intro ys
  rw [TL.join_eq]
  induction ys with
  | nil => exact Nat.zero_le _
  | cons p l ih =>
    cases l with
    | nil =>
      rw [tot_cons]
      show p.length + 1 + 0 ≤ p.length + 1
      omega
    | cons q r =>
      have e : Str.join y (p :: q :: r) = p ++ y ++ Str.join y (q :: r) := rfl
      rw [e, len_app, len_app, tot_cons]
      omega
theorem join_sub {y p : Str} {c : Nat} : ∀ {ps : List Str}, p ∈ ps → c ∈ p.cps.toList → c ∈ (Txt.join y ps).cps.toList := by
  intro ps hp hc
  rw [TL.join_eq]
  have g : c ∈ TL.tl (Str.join y ps) := by
    rw [TL.tl_join]
    induction ps with
    | nil => cases hp
    | cons q l ih =>
      cases l with
      | nil =>
        rw [List.mem_singleton.mp hp] at hc
        exact hc
      | cons r l =>
        show c ∈ TL.tl q ++ (TL.tl y ++ TL.joinL (TL.tl y) ((r :: l).map TL.tl))
        rcases List.mem_cons.mp hp with rfl | hp
        · exact List.mem_append_left _ hc
        · exact List.mem_append_right _ (List.mem_append_right _ (ih hp))
  exact g
theorem split_back (z y : Str) : Txt.join y (Txt.split z y) = z := by
  rw [TL.join_eq]
  exact StrLaws.join_split z y
theorem spl_ne (S : List Nat) : ∀ (l : List Nat) (k : Nat) (acc : List Nat), TL.spl S k acc l ≠ []
  | [], k, acc => by
    rw [TL.spl_nil]
    simp
  | c :: r, 0, acc => by
    unfold TL.spl
    split
    · simp
    · exact spl_ne S r 0 _
  | c :: r, k + 1, acc => by
    unfold TL.spl
    exact spl_ne S r k acc
/-- a sign between -/
structure Sep (y : Str) : Prop where
  l : y.length = 1
  k : y.cps.all (· < 256) = true
theorem Sep.ne {y : Str} (h : Sep y) : TL.tl y ≠ [] := fun e => by
  have e2 : y.length = (TL.tl y).length := rfl
  rw [e, h.l] at e2
  cases e2
theorem sep_sp : Sep " " := ⟨by decide +kernel, by decide +kernel⟩
theorem sep_nl : Sep "\n" := ⟨by decide +kernel, by decide +kernel⟩
theorem split_ne {z y : Str} (h : Sep y) : Txt.split z y ≠ [] := fun e => by
  have s := TL.split_spl z y h.ne (TL.kind_ok h.k)
  rw [e] at s
  exact spl_ne _ _ _ _ s.symm
theorem tot_split {z y : Str} (h : Sep y) : tot (Txt.split z y) ≤ z.length + 1 := by
  have t := tot_join h.l (Txt.split z y)
  rw [split_back] at t
  exact t
theorem split_len {z y p : Str} (h : Sep y) (hp : p ∈ Txt.split z y) : p.length ≤ z.length := by
  have t := tot_split (z := z) h
  have := tot_mem hp
  omega
theorem split_sub {z y p : Str} {c : Nat} (hp : p ∈ Txt.split z y) (hc : c ∈ p.cps.toList) : c ∈ z.cps.toList := by
  have t := join_sub (y := y) hp hc
  rwa [split_back] at t
theorem smC_sub {z p : Str} (h : smC z = true) (s : ∀ c ∈ p.cps.toList, c ∈ z.cps.toList) : smC p = true := by
  unfold smC at h ⊢
  rw [List.all_eq_true] at h ⊢
  exact fun c hc => h c (s c hc)
theorem asA_sub {z p : Str} (h : asA z = true) (s : ∀ c ∈ p.cps.toList, c ∈ z.cps.toList) : asA p = true := by
  unfold asA at h ⊢
  rw [List.all_eq_true] at h ⊢
  exact fun c hc => h c (s c hc)
/-! ### what is read of words is small -/
theorem num_abs {w : Str} {v : Int} (h : numZ w = some v) : v.natAbs < 10 ^ 30 ∧ sI v = w := by
  unfold numZ at h
  by_cases d : isDg (dgZ w) = true
  · rw [if_pos d] at h
    obtain ⟨u, e, l, _⟩ := dg_int d
    rw [e] at h
    dsimp only at h
    by_cases q : sI u = w
    · rw [if_pos q] at h
      cases h
      exact ⟨l, q⟩
    · rw [if_neg q] at h
      cases h
  · rw [if_neg d] at h
    cases h
theorem rdW_sm (i : Nat) {w : Str} (h : smC w = true) : (rdW i w).showable = true ∧ (rdW i w).leavesShort 100 = true ∧ (rdW i w).depth = 0 ∧ (rdW i w).weight ≤ w.length + (if i = 1 ∨ i = 4 then 100 else 0) := by
  unfold rdW nD
  by_cases c : i = 1 ∨ i = 4
  · rw [if_pos c, if_pos c]
    cases e : numZ w with
    | none => exact ⟨rfl, rfl, rfl, Nat.zero_le _⟩
    | some v =>
      obtain ⟨l, q⟩ := num_abs e
      have hl := log_lt l
      refine ⟨?_, ?_, ?_, ?_⟩
      · simp only [PyData.showable]
        exact decide_eq_true (by omega)
      · simp only [PyData.leavesShort]
        refine decide_eq_true ?_
        have := (sI_len l).2
        have e : (PyData.shown (.int v)) = sI v := by
          simp only [PyData.shown]
          rfl
        rw [e]
        omega
      · simp [PyData.depth]
      · simp only [PyData.weight]
        split <;> omega
  · rw [if_neg c, if_neg c]
    refine ⟨rfl, h, by simp [PyData.depth], ?_⟩
    simp only [PyData.weight]
    exact Nat.le_refl _
theorem fndF_sm : ∀ (i : Nat) (ws : List Str), (∀ w ∈ ws, smC w = true) → PyData.showableAll (fndF i ws) = true ∧ PyData.leavesShortAll 100 (fndF i ws) = true ∧ PyData.depthAll (fndF i ws) = 0 ∧
    PyData.weightAll (fndF i ws) ≤ tot ws + (if i ≤ 1 then 200 else if i ≤ 4 then 100 else 0)
  | _, [], _ => ⟨rfl, rfl, by simp [fndF, PyData.depthAll], by simp [fndF, PyData.weightAll]⟩
  | i, w :: ws, h => by
    obtain ⟨a, b, c, d⟩ := rdW_sm i (h w (.head _))
    obtain ⟨a2, b2, c2, d2⟩ := fndF_sm (i + 1) ws fun x hx => h x (.tail _ hx)
    show PyData.showableAll (rdW i w :: fndF (i + 1) ws) = true ∧ PyData.leavesShortAll 100 (rdW i w :: fndF (i + 1) ws) = true ∧ PyData.depthAll (rdW i w :: fndF (i + 1) ws) = 0 ∧ PyData.weightAll (rdW i w :: fndF (i + 1) ws) ≤ _
    simp only [PyData.showableAll, PyData.leavesShortAll, PyData.depthAll, PyData.weightAll, a, b, c, a2, b2, c2, Bool.and_true, true_and, tot_cons]
    refine ⟨rfl, ?_⟩
    split at d <;> split at d2 <;> (try split at d2) <;> (try split) <;> (try split) <;> omega
theorem sm_fnd {z : Str} (h : smC z = true) (hl : z.length ≤ 40000) : Sm (.tuple (fnd (Txt.split z " "))) := by
  obtain ⟨a, b, c, d⟩ := fndF_sm 0 (Txt.split z " ") fun w hw => smC_sub h fun c hc => split_sub hw hc
  have t := tot_split (z := z) sep_sp
  rw [if_pos (by decide)] at d
  refine ⟨by simpa only [PyData.showable, fnd] using a, by simpa only [PyData.leavesShort, fnd] using b, ?_, ?_⟩
  · simp only [PyData.weight]
    show PyData.weightAll (fndF 0 _) ≤ _
    omega
  · simp only [PyData.depth]
    show PyData.depthAll (fndF 0 _) + 1 ≤ _
    omega
/-! ### what is read of a text -/
def opZ (z : Str) : Option (List PyData) := if opD (.tuple (fnd (Txt.split z " "))) = true then some (fnd (Txt.split z " ")) else none
theorem opZ_op {z : Str} {ds : List PyData} (h : opZ z = some ds) : opD (.tuple ds) = true ∧ ds = fnd (Txt.split z " ") := by
  unfold opZ at h
  by_cases c : opD (.tuple (fnd (Txt.split z " "))) = true
  · rw [if_pos c] at h
    cases h
    exact ⟨c, rfl⟩
  · rw [if_neg c] at h
    cases h
def addR (acc : List (List PyData)) : Nat ⊕ List (List PyData) → Nat ⊕ List (List PyData)
  | .inl k => .inl k
  | .inr l => .inr (acc ++ l)
def rdF : Nat → List Str → Nat ⊕ List (List PyData)
  | _, [] => .inr []
  | i, z :: zs => match opZ z with
    | none => .inl (i + 1)
    | some ds => if 60 ≤ i then .inl (i + 1) else addR [ds] (rdF (i + 1) zs)
theorem addR_nil (r : Nat ⊕ List (List PyData)) : addR [] r = r := by
  cases r <;> rfl
theorem addR_add (a b : List (List PyData)) (r : Nat ⊕ List (List PyData)) : addR a (addR b r) = addR (a ++ b) r := by
  cases r with
  | inl k => rfl
  | inr l =>
    show Sum.inr (a ++ (b ++ l)) = Sum.inr (a ++ b ++ l)
    rw [List.append_assoc]
/-- the first i lines are read, acc is what they gave -/
structure Pre (ls : List Str) (i : Nat) (acc : List (List PyData)) : Prop where
  eq : rdF 0 ls = addR acc (rdF i (ls.drop i))
  op : ∀ ds ∈ acc, opD (.tuple ds) = true
  ln : acc.length = i
  le : i ≤ 60
theorem Pre.zero (ls : List Str) : Pre ls 0 [] := ⟨by rw [addR_nil, List.drop_zero], (fun _ h => by cases h), rfl, by decide⟩
theorem drop_get {α : Type} {l : List α} {i : Nat} {z : α} (h : l[i]? = some z) : l.drop i = z :: l.drop (i + 1) := by
  obtain ⟨hl, e⟩ := List.getElem?_eq_some_iff.mp h
  rw [List.drop_eq_getElem_cons hl, e]
theorem Pre.bad {ls : List Str} {i : Nat} {acc : List (List PyData)} {z : Str} (p : Pre ls i acc) (h : ls[i]? = some z) (b : opZ z = none ∨ 60 ≤ i) : rdF 0 ls = .inl (i + 1) := by
  rw [p.eq, drop_get h]
  unfold rdF
  cases e : opZ z with
  | none => rfl
  | some ds =>
    dsimp only
    rcases b with b | b
    · rw [e] at b
      cases b
    · rw [if_pos b]
      rfl
theorem Pre.next {ls : List Str} {i : Nat} {acc : List (List PyData)} {z : Str} {ds : List PyData} (p : Pre ls i acc) (h : ls[i]? = some z) (b : opZ z = some ds) (l : i < 60) : Pre ls (i + 1) (acc ++ [ds]) := by
  refine ⟨?_, fun d hd => ?_, by rw [List.length_append, p.ln]; rfl, l⟩
  · rw [p.eq, drop_get h]
    have e : rdF i (z :: ls.drop (i + 1)) = addR [ds] (rdF (i + 1) (ls.drop (i + 1))) := by
      have u : rdF i (z :: ls.drop (i + 1)) = (match opZ z with
        | none => Sum.inl (i + 1)
        | some ds => if 60 ≤ i then .inl (i + 1) else addR [ds] (rdF (i + 1) (ls.drop (i + 1)))) := rfl
      rw [u, b]
      exact if_neg (by omega)
    rw [e, addR_add]
  · rcases List.mem_append.mp hd with hd | hd
    · exact p.op d hd
    · rw [List.mem_singleton.mp hd]
      exact (opZ_op b).1
theorem Pre.all {ls : List Str} {acc : List (List PyData)} (p : Pre ls ls.length acc) : rdF 0 ls = .inr acc := by
  rw [p.eq, List.drop_length]
  show Sum.inr (acc ++ []) = _
  rw [List.append_nil]
def valR : PyData → Nat ⊕ List (List PyData)
  | .str z => rdF 0 (linesZ z)
  | _ => .inl 1
/-- what is told of it -/
def rdD : Nat ⊕ List (List PyData) → PyData
  | .inl k => .list [.str "line", .int ((k : Nat) : Int)]
  | .inr ops => .list [.str "told", .tuple (ops.map .tuple)]
/-- a value that may be read -/
structure Okd (d : PyData) : Prop where
  sm : Sm d
  t : ∀ z, d = .str z → z.length ≤ 40000 ∧ smC z = true
theorem Okd.text {z : Str} (h : smC z = true) (l : z.length ≤ 40000) : Okd (.str z) := by
  have e : z.cps.size = z.length := rfl
  refine ⟨⟨rfl, h, ?_, ?_⟩, fun y e => ?_⟩
  · simp only [PyData.weight]; omega
  · simp [PyData.depth]
  · cases e
    exact ⟨l, h⟩
theorem Okd.val {d : PyData} (h : Sv d) : Okd d := ⟨h.sm, fun z e => by
  subst e
  have w := h.wt
  have l := h.lv
  simp only [PyData.weight] at w
  exact ⟨Nat.le_trans (show z.length ≤ 1000 from w) (by decide), l⟩⟩
theorem linesZ_sub {z p : Str} (h : p ∈ linesZ z) : p.length ≤ z.length ∧ ∀ c ∈ p.cps.toList, c ∈ z.cps.toList := by
  unfold linesZ at h
  split at h
  · exact ⟨split_len sep_nl h, fun c hc => split_sub h hc⟩
  · cases h
theorem linesZ_len (z : Str) : (linesZ z).length ≤ z.length + 1 := by
  unfold linesZ
  split
  · have := tot_split (z := z) sep_nl
    have := tot_len (Txt.split z "\n")
    omega
  · exact Nat.zero_le _
theorem rdF_le : ∀ (ls : List Str) (i k : Nat), rdF i ls = .inl k → k ≤ i + ls.length
  | [], i, k, h => by cases h
  | z :: zs, i, k, h => by
    unfold rdF at h
    rw [List.length_cons]
    cases e : opZ z with
    | none =>
      rw [e] at h
      cases h
      omega
    | some ds =>
      rw [e] at h
      dsimp only at h
      by_cases c : 60 ≤ i
      · rw [if_pos c] at h
        cases h
        omega
      · rw [if_neg c] at h
        cases r : rdF (i + 1) zs with
        | inl m =>
          rw [r] at h
          have h : (Sum.inl m : Nat ⊕ List (List PyData)) = .inl k := h
          have e := Sum.inl.inj h
          have := rdF_le zs (i + 1) m r
          omega
        | inr l =>
          rw [r] at h
          cases h
theorem rdF_shp : ∀ (ls : List Str) (i : Nat) (ops : List (List PyData)), rdF i ls = .inr ops → (∀ ds ∈ ops, opD (.tuple ds) = true) ∧ (i ≤ 60 → ops.length + i ≤ 60)
  | [], i, ops, h => by
    cases h
    exact ⟨(fun _ h => by cases h), fun h => by simpa using h⟩
  | z :: zs, i, ops, h => by
    unfold rdF at h
    cases e : opZ z with
    | none => rw [e] at h; cases h
    | some ds =>
      rw [e] at h
      dsimp only at h
      by_cases c : 60 ≤ i
      · rw [if_pos c] at h
        cases h
      · rw [if_neg c] at h
        cases r : rdF (i + 1) zs with
        | inl m => rw [r] at h; cases h
        | inr l =>
          rw [r] at h
          have h : Sum.inr ([ds] ++ l) = (Sum.inr ops : Nat ⊕ List (List PyData)) := h
          cases h
          obtain ⟨a, b⟩ := rdF_shp zs (i + 1) l r
          refine ⟨fun d hd => ?_, fun _ => ?_⟩
          · rcases List.mem_append.mp hd with hd | hd
            · rw [List.mem_singleton.mp hd]
              exact (opZ_op e).1
            · exact a d hd
          · have := b (by omega)
            rw [List.length_append, List.length_singleton]
            omega
theorem sm_two2 {a b : PyData} (ha : Sv a) (hb : Sm b) (hd : b.depth ≤ 40) (hw : b.weight ≤ 90000) : Sm (.list [a, b]) := by
  have h1 := ha.wt
  have h2 := ha.dp
  refine ⟨?_, ?_, ?_, ?_⟩
  · simp [PyData.showable, PyData.showableAll, ha.sh, hb.sh]
  · simp [PyData.leavesShort, PyData.leavesShortAll, ha.lv, hb.lv]
  · simp only [PyData.weight, PyData.weightAll]; omega
  · simp only [PyData.depth, PyData.depthAll]; omega
theorem sm_rdD {d : PyData} (h : Okd d) : Sm (rdD (valR d)) := by
  have one : ∀ k : Nat, k ≤ 40001 → Sm (rdD (.inl k)) := fun k hk => by
    have s : Sv (.int ((k : Nat) : Int)) := Sv.int (by omega) (by omega)
    refine sm_two2 (Sv.of (by decide +kernel)) s.sm ?_ ?_
    · have := s.dp; omega
    · have := s.wt; omega
  cases d with
  | str z =>
    obtain ⟨l, _⟩ := h.t z rfl
    show Sm (rdD (rdF 0 (linesZ z)))
    cases r : rdF 0 (linesZ z) with
    | inl k =>
      have := rdF_le _ _ _ r
      have := linesZ_len z
      exact one k (by omega)
    | inr ops =>
      obtain ⟨a, b⟩ := rdF_shp _ _ _ r
      have b := b (by decide)
      have sh : ∀ ds ∈ ops, Shp ds := fun ds hd => shp_of (a ds hd)
      obtain ⟨_, _, c, e⟩ := sv_dep (ds := ops.map .tuple) fun d hd => by
        obtain ⟨o, ho, rfl⟩ := List.mem_map.mp hd
        exact sv_op (sh o ho)
      rw [List.length_map] at c
      refine sm_two2 (Sv.of (by decide +kernel)) (sm_his sh (by omega)) ?_ ?_
      · simp only [PyData.depth]; omega
      · simp only [PyData.weight]; omega
  | _ => exact one 1 (by decide)
end Rm

set_option maxRecDepth 100000
set_option maxHeartbeats 4000000
namespace Rm
open PySem PySem.Spec L2
open PyProof.Rows hiding St

/-! ### numbers within bounds, as a word says them -/
def numB (lo hi : Int) (w : Str) : Option Int := match numZ w with
  | some v => if lo ≤ v ∧ v ≤ hi then some v else none
  | none => none
theorem numB_isW {lo hi : Int} {w : Str} : isW lo hi (nD w) = (numB lo hi w).isSome := by
  unfold nD numB
  cases numZ w with
  | none => rfl
  | some v =>
    show (decide (lo ≤ v) && decide (v ≤ hi)) = _
    dsimp only
    by_cases h : lo ≤ v ∧ v ≤ hi
    · rw [if_pos h, decide_eq_true h.1, decide_eq_true h.2]; rfl
    · rw [if_neg h]
      cases a : decide (lo ≤ v) with
      | false => rfl
      | true =>
        cases b : decide (v ≤ hi) with
        | false => rfl
        | true => exact absurd ⟨of_decide_eq_true a, of_decide_eq_true b⟩ h
theorem numB_nD {lo hi v : Int} {w : Str} (h : numB lo hi w = some v) : nD w = .int v ∧ lo ≤ v ∧ v ≤ hi := by
  unfold numB at h
  unfold nD
  cases e : numZ w with
  | none => rw [e] at h; cases h
  | some u =>
    rw [e] at h
    dsimp only at h
    by_cases c : lo ≤ u ∧ u ≤ hi
    · rw [if_pos c] at h
      cases h
      exact ⟨rfl, c⟩
    · rw [if_neg c] at h; cases h
structure Plain (w : Str) : Prop where
  d : NumText.AllDigits w.cps.toList
  n : w.cps.toList ≠ []
  l : w.length ≤ 30
theorem Plain.dg {w : Str} (h : Plain w) : dgZ w = w ∧ isDg (dgZ w) = true := by
  have e : dgZ w = w := dgZ_pos fun cs q => by
    have := h.d 45 (by rw [q]; exact .head _)
    omega
  exact ⟨e, by rw [e]; exact dg_iff.mpr ⟨h.d, h.n, h.l⟩⟩
theorem Plain.val {w : Str} (h : Plain w) : intText? w = some ((NumText.digitsVal w.cps.toList : Nat) : Int) := intText_digits h.d h.n (by have := h.l; omega)
theorem numL_back {cs : List Nat} (h : NumText.AllDigits cs) (n : cs ≠ []) (z : cs.head? ≠ some 48 ∨ cs = [48]) : TL.numL (NumText.digitsVal cs) = cs := by
  have lp := List.length_pos_iff.mpr n
  have e := NumText.toDigits_digitsVal (cs.length - 1) cs (by omega) h (by
    rcases z with z | z
    · right
      match cs, n with
      | c :: r, _ =>
        refine ⟨c, r, rfl, ?_⟩
        have := h c (.head _)
        have : c ≠ 48 := fun e => z (by rw [e]; rfl)
        omega
    · left
      rw [z]
      rfl)
  unfold TL.numL
  rw [e, List.map_map]
  have g : ∀ (l : List Nat), NumText.AllDigits l → l.map (Char.toNat ∘ Char.ofNat) = l := by
    intro l
    induction l with
    | nil => intro _; rfl
    | cons c l ih =>
      intro h
      rw [List.map_cons, ih fun x hx => h x (.tail _ hx)]
      have hc := h c (.head _)
      have : (Char.toNat ∘ Char.ofNat) c = c := by
        have t : ∀ k : Fin 10, (Char.ofNat (48 + k.val)).toNat = 48 + k.val := by decide
        have := t ⟨c - 48, by omega⟩
        dsimp only at this
        rw [show 48 + (c - 48) = c by omega] at this
        exact this
      rw [this]
  exact g cs h
theorem str_ext {a b : Str} (h : a.cps.toList = b.cps.toList) : a = b := TL.ext_tl h
theorem z48 : ("0" : Str).cps.toList = [48] := by decide +kernel
theorem Plain.num {w : Str} (h : Plain w) (z : ¬ (w.cps.toList.head? = some 48 ∧ w ≠ "0")) : numZ w = some ((NumText.digitsVal w.cps.toList : Nat) : Int) := by
  unfold numZ
  rw [if_pos h.dg.2, h.val]
  refine if_pos (str_ext ?_)
  rw [tl_sI]
  refine numL_back h.d h.n ?_
  by_cases c : w.cps.toList.head? = some 48
  · right
    have e : w = "0" := Classical.byContradiction fun q => z ⟨c, q⟩
    rw [e, z48]
  · exact .inl c
theorem Plain.lead {w : Str} (h : Plain w) (z : w.cps.toList.head? = some 48 ∧ w ≠ "0") : numZ w = none := by
  unfold numZ
  rw [if_pos h.dg.2, h.val]
  refine if_neg fun e => ?_
  have e2 : (sI ((NumText.digitsVal w.cps.toList : Nat) : Int)).cps.toList = w.cps.toList := by rw [e]
  rw [tl_sI] at e2
  generalize NumText.digitsVal w.cps.toList = n at e2
  obtain ⟨z1, z2⟩ := z
  rw [← e2] at z1
  by_cases l : n < 10
  · rw [TL.numL_lt l] at e2 z1
    have : 48 + n = 48 := by simpa using z1
    refine z2 (str_ext ?_)
    rw [← e2, z48, this]
  · -- a longer number does not begin with a nought
    have g : ∀ n : Nat, 0 < n → (TL.numL n).head? ≠ some 48 := by
      intro n
      induction n using Nat.strongRecOn with
      | ind n ih =>
        intro hp
        by_cases q : n < 10
        · rw [TL.numL_lt q]
          simp
          omega
        · rw [TL.numL_step (by omega)]
          have := ih (n / 10) (by omega) (by omega)
          cases e : TL.numL (n / 10) with
          | nil => exact absurd e (TL.numL_ne _)
          | cons c r =>
            rw [e] at this
            simpa using this
    exact g n (by omega) z1
/-- a word that is no row of digits is no number, or one below nought -/
theorem num_neg {w : Str} (h : ¬ Plain w) {v : Int} (e : numZ w = some v) : v < 0 := by
  obtain ⟨l, q⟩ := num_abs e
  rcases Int.lt_or_le v 0 with n | p
  · exact n
  · exfalso
    obtain ⟨m, rfl⟩ := Int.eq_ofNat_of_zero_le p
    rw [Int.natAbs_natCast] at l
    refine h ⟨?_, ?_, ?_⟩
    · rw [← q, tl_sI]; exact TL.numL_digits m
    · rw [← q, tl_sI]; exact TL.numL_ne m
    · show w.cps.toList.length ≤ 30
      rw [← q, tl_sI]; exact numL_30 l
theorem numB_np {w : Str} {lo hi : Int} (h0 : 0 ≤ lo) (h : ¬ Plain w) : numB lo hi w = none := by
  unfold numB
  cases e : numZ w with
  | none => rfl
  | some v =>
    have := num_neg h e
    exact if_neg (by omega)
theorem Plain.numB {w : Str} {lo hi : Int} (h : Plain w) (z : ¬ (w.cps.toList.head? = some 48 ∧ w ≠ "0")) : Rm.numB lo hi w = if lo ≤ ((NumText.digitsVal w.cps.toList : Nat) : Int) ∧ ((NumText.digitsVal w.cps.toList : Nat) : Int) ≤ hi then some ((NumText.digitsVal w.cps.toList : Nat) : Int) else none := by
  unfold Rm.numB
  rw [h.num z]
theorem Plain.numB0 {w : Str} {lo hi : Int} (h : Plain w) (z : w.cps.toList.head? = some 48 ∧ w ≠ "0") : Rm.numB lo hi w = none := by
  unfold Rm.numB
  rw [h.lead z]
theorem numB_v {w : Str} : numB vlo vhi w = numZ w := by
  unfold numB
  cases e : numZ w with
  | none => rfl
  | some v =>
    obtain ⟨l, _⟩ := num_abs e
    have e3 : vlo = -999999999999999999999999999999 := by decide
    have e4 : vhi = 999999999999999999999999999999 := by decide
    exact if_pos ⟨by omega, by omega⟩
theorem numB_hi {w : Str} (h : ∀ cs, w.cps.toList ≠ 45 :: cs) : numB 0 (10 ^ 30) w = numZ w := by
  unfold numB
  cases e : numZ w with
  | none => rfl
  | some v =>
    obtain ⟨l, q⟩ := num_abs e
    refine if_pos ⟨?_, by omega⟩
    rcases Int.lt_or_le v 0 with n | p
    · have t := tl_sIneg n
      rw [q] at t
      exact absurd t (h _)
    · exact p
theorem num_minus {w : Str} {cs : List Nat} (h : w.cps.toList = 45 :: cs) : numZ w = (numB 1 (10 ^ 30) ⟨cs.toArray⟩).map fun v => 0 - v := by
  have ec : (⟨cs.toArray⟩ : Str).cps.toList = cs := by simp
  cases e : numZ w with
  | some v =>
    obtain ⟨l, q⟩ := num_abs e
    have n : v < 0 := by
      rcases Int.lt_or_le v 0 with n | p
      · exact n
      · obtain ⟨m, rfl⟩ := Int.eq_ofNat_of_zero_le p
        have t := tl_sI m
        rw [q, h] at t
        have := TL.numL_digits m 45 (by rw [← t]; exact .head _)
        omega
    have t := tl_sIneg n
    rw [q, h] at t
    have t2 : cs = TL.numL v.natAbs := (List.cons.inj t).2
    have e2 : (⟨cs.toArray⟩ : Str) = sI (v.natAbs : Int) := str_ext (by rw [ec, tl_sI, t2])
    have e3 : numB 1 (10 ^ 30) ⟨cs.toArray⟩ = some (v.natAbs : Int) := by
      unfold numB
      rw [e2, sI_read (by rw [Int.natAbs_natCast]; exact l)]
      exact if_pos ⟨by omega, by omega⟩
    rw [e3]
    show some v = some (0 - (v.natAbs : Int))
    congr 1
    omega
  | none =>
    cases e2 : numB 1 (10 ^ 30) (⟨cs.toArray⟩ : Str) with
    | none => rfl
    | some n =>
      exfalso
      unfold numB at e2
      cases e3 : numZ (⟨cs.toArray⟩ : Str) with
      | none => rw [e3] at e2; cases e2
      | some u =>
        rw [e3] at e2
        dsimp only at e2
        by_cases c : 1 ≤ u ∧ u ≤ 10 ^ 30
        · obtain ⟨l, q⟩ := num_abs e3
          have t : (sI u).cps.toList = cs := by rw [q, ec]
          obtain ⟨m, rfl⟩ := Int.eq_ofNat_of_zero_le (show 0 ≤ u by omega)
          rw [tl_sI] at t
          have nm : (-(m : Int)) < 0 := by omega
          have t2 := tl_sIneg nm
          have ea : (-(m : Int)).natAbs = m := by omega
          rw [ea, t, ← h] at t2
          have e4 := sI_read (i := -(m : Int)) (by rw [ea]; simpa using l)
          rw [str_ext t2, e] at e4
          cases e4
        · rw [if_neg c] at e2; cases e2
/-! ### a text many times -/
def repS (z : Str) (n : Nat) : Str := ⟨(List.replicate n z.cps).foldl (· ++ ·) #[]⟩
theorem repS_list (z : Str) (n : Nat) : (repS z n).cps.toList = (List.replicate n z.cps.toList).flatten := by
  have g : ∀ (l : List (Array Nat)) (a : Array Nat), (l.foldl (· ++ ·) a).toList = a.toList ++ (l.map Array.toList).flatten := by
    intro l
    induction l with
    | nil => intro a; simp
    | cons x l ih =>
      intro a
      rw [List.foldl_cons, ih, Array.toList_append, List.map_cons, List.flatten_cons, List.append_assoc]
  have := g (List.replicate n z.cps) #[]
  show ((List.replicate n z.cps).foldl (· ++ ·) #[]).toList = _
  rw [this, List.map_replicate]
  rfl
theorem repS_len (z : Str) (n : Nat) : (repS z n).length = n * z.length := by
  have e : (repS z n).length = (repS z n).cps.toList.length := rfl
  have g : ∀ (n k : Nat), (List.replicate n k).sum = n * k := by
    intro n k
    induction n with
    | zero => simp
    | succ n ih => rw [List.replicate_succ, List.sum_cons, ih, Nat.add_mul, Nat.one_mul, Nat.add_comm]
  rw [e, repS_list, List.length_flatten, List.map_replicate, g]
  rfl
theorem repS_mem {z : Str} {n c : Nat} (h : c ∈ (repS z n).cps.toList) : c ∈ z.cps.toList := by
  rw [repS_list] at h
  obtain ⟨l, hl, hc⟩ := List.mem_flatten.mp h
  rw [(List.mem_replicate.mp hl).2] at hc
  exact hc
def rRepN : R2 := fun x y H Q => ∃ (z : Str) (n : Int), x = .str z ∧ y = .int n ∧ 2 ≤ n ∧ n ≤ 100000 ∧ 1 ≤ z.length ∧ z.length ≤ 100 ∧ Q (.str (repS z n.toNat)) H
theorem op_repN {X : Cx} : OpR X (binaryOp .Mult) rRepN := by
  intro pins s σ H x y v u Q I rx ry h
  obtain ⟨z, n, rfl, rfl, n2, nn, z1, z2, q⟩ := h
  obtain ⟨t, rfl⟩ := rx
  obtain ⟨t', rfl⟩ := ry
  have c1 : ¬ n < 1 := by omega
  have c2 : ¬ (n == 1 || z.length == 0) = true := by
    simp
    exact ⟨by omega, fun e => by omega⟩
  refine PySem.P.mul_str ?_ (fun _ _ => ?_) (fun _ _ => ?_) ?_
  · rw [decide_eq_false (by omega), decide_eq_false (by omega)]
    rfl
  · have h1 : (100 : Int) ≤ (2 ^ 63 - 1) / n := by
      refine (Int.le_ediv_iff_mul_le (by omega)).mpr ?_
      omega
    omega
  · unfold Builtin.Str.tooLong
    have : z.length * n.toNat ≤ 100 * 100000 := Nat.mul_le_mul z2 (by omega)
    refine decide_eq_false ?_
    rw [sizeLine_eq]
    omega
  · rw [if_neg c1, if_neg c2]
    refine ⟨?_, .str _, H, I.tok _, ⟨_, rfl⟩, q⟩
    show (repS z n.toNat).length ≤ sizeLine
    rw [repS_len, sizeLine_eq]
    have : n.toNat * z.length ≤ 100000 * 100 := Nat.mul_le_mul (by omega) z2
    omega
/-! ### a list of texts among lists of texts -/
theorem eqvAll_strs : ∀ (xs ys : List Str), PyData.eqvAll (xs.map .str) (ys.map .str) = decide (xs = ys)
  | [], [] => by simp [PyData.eqvAll]
  | [], _ :: _ => by simp [PyData.eqvAll]
  | _ :: _, [] => by simp [PyData.eqvAll]
  | x :: xs, y :: ys => by
    have ih := eqvAll_strs xs ys
    simp only [List.map_cons, PyData.eqvAll, PyData.eqv, ih, List.cons.injEq]
    rw [Bool.eq_iff_iff]
    simp
theorem alike_strs : ∀ (xs ys : List Str), PySem.W.alikeAll (xs.map .str) (ys.map .str) = true
  | [], _ => by simp [PySem.W.alikeAll]
  | _ :: _, [] => by simp [PySem.W.alikeAll]
  | x :: xs, y :: ys => by
    simp only [List.map_cons, PySem.W.alikeAll, PySem.W.alike, alike_strs xs ys, Bool.and_true]
theorem dp_strs {K : PySem.W.Frag} {H : Hp} : ∀ (xs : List Str), DpAll K H (xs.map V.str) (xs.map .str)
  | [] => .nil
  | x :: xs => .cons (.str x) (dp_strs xs)
theorem dp_depth : ∀ (xs : List Str), PyData.depthAll (xs.map .str) = 0
  | [] => by simp [PyData.depthAll]
  | x :: xs => by simp [PyData.depthAll, PyData.depth, dp_depth xs]
theorem vals_prs {α : Type} : ∀ {ps : List (Addr × α)} {us : List Value}, Vals (ps.map fun p => V.ref p.1) us → us = ps.map fun p => Value.ref p.1
  | [], _, .nil => rfl
  | p :: ps, _, .cons r t => by
    cases r
    rw [vals_prs t]
    rfl
def rInLs (K : PySem.W.Frag) : R2 := fun x y H Q => ∃ (a p : Addr) (ws : List Str) (ps : List (Addr × List Str)), x = .ref a ∧ SqL K H a (ws.map V.str) ∧ y = .ref p ∧ SqT K H p (ps.map fun q => V.ref q.1) ∧ (ps.map (·.1)).Nodup ∧
  (∀ q ∈ ps, SqL K H q.1 (q.2.map V.str)) ∧ Q (.bl (ps.any fun q => decide (q.2 = ws))) H
theorem op_inLs {X : Cx} (hu : X.A.units + 64 < cLine) : OpR X (compareOp .In) (rInLs X.K) := by
  intro pins s σ H x y v u Q I rx ry h
  obtain ⟨a, p, ws, ps, rfl, ha, rfl, hp, nd, hq, q⟩ := h
  obtain ⟨as, r1⟩ := Dp.reads I (.list (ws.map .str)) (.ref a) v (.lst ha (dp_strs ws)) rx
  cases rx
  cases ry
  obtain ⟨its, rv, pl, _⟩ := I.tuple hp
  have ei := vals_prs rv
  subst ei
  let e : Value → Bool := fun u => ps.any fun q => decide (u = .ref q.1) && decide (q.2 = ws)
  have ee : ∀ q ∈ ps, e (.ref q.1) = decide (q.2 = ws) := fun q hm => by
    show (ps.any fun r => decide (Value.ref q.1 = .ref r.1) && decide (r.2 = ws)) = _
    rw [Bool.eq_iff_iff, List.any_eq_true]
    constructor
    · rintro ⟨r, hr, h⟩
      simp only [Bool.and_eq_true, decide_eq_true_eq] at h
      have e1 : q.1 = r.1 := Value.ref.inj h.1
      have e2 : q = r := by
        have inj := List.pairwise_map.mp nd
        exact Classical.byContradiction fun ne => by
          obtain ⟨i, hi, ei⟩ := List.mem_iff_getElem.mp hm
          obtain ⟨j, hj, ej⟩ := List.mem_iff_getElem.mp hr
          have pw := List.pairwise_iff_getElem.mp inj
          rcases Nat.lt_trichotomy i j with l | l | l
          · exact pw i j hi hj l (by rw [ei, ej]; exact e1)
          · subst l; exact ne (ei.symm.trans ej)
          · exact pw j i hj hi l (by rw [ei, ej]; exact e1.symm)
      rw [e2]
      exact decide_eq_true h.2
    · intro h
      exact ⟨q, hm, by simp only [Bool.and_eq_true, decide_eq_true_eq]; exact ⟨trivial, of_decide_eq_true h⟩⟩
  refine SeqAt.in_tupleAt e pl (fun y hy => ?_) ⟨.bl _, H, I, rfl, ?_⟩
  · have hy : y ∈ (ps.map fun p => Value.ref p.1) := by simpa using hy
    obtain ⟨r, hr, rfl⟩ := List.mem_map.mp hy
    obtain ⟨bs, r2⟩ := Dp.reads I (.list (r.2.map .str)) (.ref r.1) (.ref r.1) (.lst (hq r hr) (dp_strs r.2)) rfl
    have k := PySem.W.eqAt_alike (.list (r.2.map .str)) (.list (ws.map .str)) X.A.in1 s _ _ _ _ r2 r1 (by simp only [PySem.W.alike]; exact alike_strs _ _) (by
      have d1 : (PyData.list (r.2.map .str)).depth = 1 := by simp [PyData.depth, dp_depth]
      have hu2 : X.A.in1.units ≤ X.A.units + 1 := by simp
      omega)
    rw [ee r hr]
    have ev : PyData.eqv (.list (r.2.map .str)) (.list (ws.map .str)) = decide (r.2 = ws) := by
      simp only [PyData.eqv]
      exact eqvAll_strs _ _
    rw [ev] at k
    exact k
  · have en : (ps.map fun p => Value.ref p.1).toArray.any e = ps.any fun q => decide (q.2 = ws) := by
      rw [List.any_toArray, List.any_map]
      have g : ∀ (l : List (Addr × List Str)), (∀ q ∈ l, q ∈ ps) → l.any (e ∘ fun p => Value.ref p.1) = l.any fun q => decide (q.2 = ws) := by
        intro l
        induction l with
        | nil => intro _; rfl
        | cons q l ih =>
          intro h
          rw [List.any_cons, List.any_cons, ih fun x hx => h x (.tail _ hx)]
          rw [show (e ∘ fun p : Addr × List Str => Value.ref p.1) q = e (.ref q.1) from rfl, ee q (h q (.head _))]
      exact g ps fun _ h => h
    rw [en]
    exact q
end Rm

set_option maxRecDepth 100000
set_option maxHeartbeats 4000000
namespace Rm
open PySem PySem.Spec L2
open PyProof.Rows hiding St

/-! ### a list beside an empty one, != -/
def rNeE (K : PySem.W.Frag) : R2 := fun x y H Q => ∃ a xs b, x = .ref a ∧ SqL K H a xs ∧ y = .ref b ∧ SqL K H b [] ∧ Q (.bl (!xs.isEmpty)) H
theorem op_neE {X : Cx} (hu : X.A.units < cLine) : OpR X (compareOp .NotEq) (rNeE X.K) := by
  intro pins s σ H x y v u Q I rx ry h
  obtain ⟨a, xs, b, rfl, ha, rfl, hb, q⟩ := h
  cases rx
  cases ry
  obtain ⟨its, rv, hl, _⟩ := I.list ha
  obtain ⟨its2, rv2, hl2, _⟩ := I.list hb
  have z2 : its2 = [] := by
    cases rv2
    rfl
  subst z2
  refine PySem.W.cmp_ofNotEq ?_
  cases rv with
  | nil =>
    refine PySem.SeqAt.RcNeAt.lists (e := fun _ => true) hl.isList hl2.isList rfl hu (fun j h1 _ => absurd h1 (by simp)) _ _ _ _ ?_
    exact ⟨.bl _, H, I, rfl, q⟩
  | cons r rs =>
    refine PySem.SeqAt.RcNeAt.lists_lengths hl.isList hl2.isList (by simp) hu _ _ _ _ ?_
    exact ⟨.bl _, H, I, rfl, q⟩
def oN : Option Int → V
  | some v => .int v
  | none => .non
theorem oN_some (v : Int) : oN (some v) = .int v := rfl
theorem signs_lt (a b : Nat) : ([a] < [b]) ↔ a < b := by rw [List.cons_lt_cons_iff]; simp
end Rm

set_option maxRecDepth 100000
set_option maxHeartbeats 4000000
namespace Rm
open PySem PySem.Spec L2
open PyProof.Rows hiding St

/-! ### line, *more = a list -/
theorem draw_walk {P : Program} {w : World} {A : Around} {I : Addr} {fp wr : List Addr} {n : Nat} {Pi : Nat → Value → Prop} {St : Nat → Heap → Prop} (W : Walks P w A I fp wr n Pi St) {E : Value → Shared → Prop} :
    ∀ (k i : Nat) (s : Shared) (Q : List Value → Shared → Prop), i + k ≤ n → St i s.heap →
      (∀ (vs : List Value) (h' : Heap) (tk : Nat), vs.length = k → (∀ j v, vs[j]? = some v → Pi (i + j) v) → St (i + k) h' →
        (∀ (b : Addr) (o : Obj), ¬b ∈ wr → s.heap.get? b = some o → h'.get? b = some o) → Q vs ⟨h', s.gens, s.drawn, tk, s.os⟩) →
      wpAny (model P w) A (draw (.ref I) k) Q E s
  | 0, i, s, Q, hk, st, q => wpAny_pure (q [] s.heap s.toks rfl (fun j v h => by simp at h) st fun _ _ _ h => h)
  | k + 1, i, s, Q, hk, st, q => by
    unfold draw
    refine wpAny_bind (W.item i s _ _ (by omega) st fun v h' tk pv st' fr => ?_)
    refine wpAny_bind (wpAny_holding (draw_walk W k (i + 1) _ _ (by omega) st' fun vs h'' tk' hl hp st'' fr' => wpAny_pure ?_))
    refine q (v :: vs) h'' tk' (by simp [hl]) (fun j u h => ?_) (by rw [show i + (k + 1) = i + 1 + k by omega]; exact st'') fun b o hb h => fr' b o hb (fr b o hb h)
    cases j with
    | zero =>
      obtain rfl := Option.some.inj h
      exact pv
    | succ j =>
      have := hp j u h
      rwa [show i + 1 + j = i + (j + 1) by omega] at this

def gStar (K : PySem.W.Frag) (t : TGs) : TG := fun v σ H Q => ∃ a x xs, v = V.ref a ∧ SqL K H a (x :: xs) ∧ ∀ D, H D = none → D ≠ a → t [x, .ref D] σ (upd H D (.lst xs)) Q
theorem pg_star {X : Cx} {pos sp : Pos} {e t : PySem.Expr} {k : Nat} {g : TGs} (hc : X.calm = true) (h : PGs X [e, t] g)
    (eq1 : (assignEach [e, t.Starred sp] X.env).map (·.2) = (assignEach [e, t] X.env).map (·.2) := by rfl)
    (eq2 : (assignEach [e, t.Starred sp] X.env).findIdx? (·.1) = some 1 := by rfl) (eq3 : (assignEach [e, t.Starred sp] X.env).length = 2 := by rfl) :
    PG X (.Tuple [e, t.Starred sp] k pos) (gStar X.K g) := by
  refine ⟨fun pins s σ H v u Q I rv q => ?_⟩
  obtain ⟨a, x, xs, rfl, hq, q⟩ := q
  cases rv
  obtain ⟨its, rs, p, hz⟩ := I.list hq
  obtain ⟨u0, us, rfl, r0, r1⟩ : ∃ u0 us, its = u0 :: us ∧ RelV x u0 ∧ Vals xs us := by
    cases rs with
    | cons a b => exact ⟨_, _, rfl, a, b⟩
  rw [arm_assign_Tuple]
  refine wpAny_bind (wpAny_standAt ?_)
  unfold unpack
  rw [eq2, eq3]
  refine wpAny_bind (wpAny_holding ?_)
  have hd : X.A.handled = none := I.ok.hd hc
  have ne : a ≠ s.heap.objs.size := fun e => by
    obtain ⟨o, ho, _⟩ := p.isList
    exact absurd (Heap.lt_size (e ▸ ho)) (Nat.lt_irrefl _)
  unfold unpackItems notIterableAtAll
  refine wpAny_bind (wpAny_bind (wpAny_specialOf (T := "list") ?_ (by rfl) ?_))
  · obtain ⟨o, n, ho, c, _⟩ := p
    exact ⟨o, ho, c⟩
  refine wpAny_ite_true rfl (wpAny_pure ?_)
  refine wpAny_ite_false (by decide) ?_
  refine wpAny_bind (wpAny_holding (wpAny_pyIter_list p.isList ?_))
  have hl : s.heap.IsList a (u0 :: us).toArray := p.isList
  have W : Walks X.prog X.w X.A s.heap.objs.size [s.heap.objs.size, a] [s.heap.objs.size] (u0 :: us).toArray.size (fun i v => (u0 :: us).toArray[i]? = some v) (fun i h => h.IsListIter s.heap.objs.size a i ∧ h.IsList a (u0 :: us).toArray) := Walks.list hd _ _ ne _
  have W' : Walks X.prog X.w X.A.in1 s.heap.objs.size [s.heap.objs.size, a] [s.heap.objs.size] (u0 :: us).toArray.size (fun i v => (u0 :: us).toArray[i]? = some v) (fun i h => h.IsListIter s.heap.objs.size a i ∧ h.IsList a (u0 :: us).toArray) := Walks.list (A := X.A.in1) (show X.A.handled = none from hd) _ _ ne _
  refine wpAny_bind (wpAny_holding (draw_walk W 1 0 _ _ (by simp) ⟨⟨_, Heap.get?_push_size s.heap (by rfl), rfl, rfl⟩, hl.push _⟩ fun vs h' tk hv hp st fr => ?_))
  obtain ⟨v, rfl⟩ : ∃ v, vs = [v] := by
    match vs, hv with
    | [v], _ => exact ⟨v, rfl⟩
  have ev : v = u0 := by
    have := hp 0 v rfl
    simpa using this.symm
  subst ev
  refine wpAny_ite_false (by simp) ?_
  have W2 : WalksS X.prog X.w X.A.in1 s.heap.objs.size [s.heap.objs.size, a] [s.heap.objs.size] (fun a b => b = a) us.length (fun i u => us[i]? = some u) (fun i s' => s'.heap.IsListIter s.heap.objs.size a (i + 1) ∧ s'.heap.IsList a (v :: us).toArray) :=
    ⟨W'.toS.sub, W'.toS.grefl, W'.toS.gtrans, fun i s' h' tk st _ k => W'.frame (i + 1) _ _ st k,
      fun i s' Q E hi st q => W'.toS.item (i + 1) s' Q E (by simp; omega) st fun u s2 pu => q u s2 (by simpa using pu),
      fun s' Q E st q => W'.toS.done s' Q E (by simpa using st) q, fun i s' Q E st q => W'.toS.self (i + 1) s' Q E st q⟩
  have fr0 : ∀ b o, s.heap.get? b = some o → h'.get? b = some o := fun b o hb => by
    have lb := Heap.lt_size hb
    exact fr b o (fun m => Nat.ne_of_lt lb (List.mem_singleton.mp m)) (Heap.get?_push_of_some _ hb)
  have szI : s.heap.objs.size < h'.objs.size := by
    obtain ⟨⟨o, ho, _⟩, _⟩ := st
    exact Heap.lt_size ho
  have sza : a < h'.objs.size := by
    obtain ⟨_, o, ho, _⟩ := st
    exact Heap.lt_size ho
  have hz' : us.length ≤ sizeLine := by
    have := rs.length
    have := r1.length
    simp at hz
    omega
  refine wpAny_bind (wpAny_holding (wpAny_collect_iter (T := "list_iterator") (.inr (.inr (.inl rfl))) W2 (fun i s' st => ?_) st (fun b hb => ?_) (.head _) (fun s2 acc mv it => ?_) hz'))
  · obtain ⟨⟨o, ho, c, _⟩, _⟩ := st
    exact ⟨o, ho, c⟩
  · rcases List.mem_cons.mp hb with e | e
    · rw [e]; exact szI
    · rw [List.mem_singleton.mp e]; exact sza
  have ea : acc.toList = us := by
    obtain ⟨e1, e2⟩ := it
    refine List.ext_getElem (by simpa using e1) fun j h1 h2 => ?_
    have : us[j]? = some acc[j] := e2 j acc[j] (Array.getElem?_eq_getElem (by simpa using h1))
    rw [List.getElem?_eq_getElem h2] at this
    simpa using (Option.some.inj this).symm
  rw [ea]
  refine wpAny_ite_false (by simp) ?_
  have f1 : ∀ b o, s.heap.get? b = some o → s2.heap.get? b = some o := fun b o hb => by
    have lb := Heap.lt_size hb
    exact mv.heap b o (fun m => Nat.ne_of_lt lb (List.mem_singleton.mp m)) (fr0 b o hb)
  have et : List.take (us.length - (2 - 1 - 1)) us = us := by simp
  have edp : List.drop (us.length - (2 - 1 - 1)) us = [] := by simp
  show wpAny _ _ ((newList (List.take (us.length - (2 - 1 - 1)) us)) >>= fun l => pure ([v] ++ [l] ++ List.drop (us.length - (2 - 1 - 1)) us)) _ _ _
  rw [et, edp]
  refine wpAny_bind (wpAny_newList (wpAny_pure ?_) hz')
  have I2 : L2.Inv X pins σ H s2 := by
    have e : s2 = { heap := s2.heap, gens := s.gens, drawn := s.drawn, toks := s2.toks, os := s.os } := by
      have g1 : s2.gens = s.gens := mv.gens
      have g2 : s2.drawn = s.drawn := mv.drawn
      have g3 : s2.os = s.os := mv.os
      rw [← g1, ← g2, ← g3]
    rw [e]
    exact I.kept f1
  have nD : H s2.heap.objs.size = none := I2.hok.fresh (Nat.le_refl _)
  have new : ObjOk X.prog X.w (upd H s2.heap.objs.size (.lst xs)) (s2.heap.push { cls := Value.type "list", data := Data.seq us.toArray }) s2.heap.objs.size (.lst xs) :=
    ⟨by simp at hz; omega, us, 0, r1, Heap.get?_push_size s2.heap (by rfl)⟩
  have I3 : L2.Inv X pins σ (upd H s2.heap.objs.size (.lst xs)) { s2 with heap := s2.heap.push { cls := Value.type "list", data := Data.seq us.toArray } } :=
    I2.turnedNew (ch := []) (t' := s2.toks) (fun b o _ hb => Heap.get?_push_of_some _ hb) (fun b hb => by cases hb) (Nat.le_refl _) new
  have neD : s2.heap.objs.size ≠ a := fun e => by
    obtain ⟨o, n, ho, _⟩ := p
    exact absurd (Heap.lt_size (f1 _ _ ho)) (by rw [e]; exact Nat.lt_irrefl _)
  have := h.run pins _ σ _ [x, .ref s2.heap.objs.size] [v, .ref s2.heap.objs.size] Q I3 (.cons r0 (.cons rfl .nil)) (q _ nD neD)
  rw [eq1]
  exact this
end Rm

set_option maxRecDepth 100000
set_option maxHeartbeats 4000000
namespace Rm
open PySem PySem.Spec L2
open PyProof.Rows hiding St

/-! ### zip of a list or tuple with a list or tuple -/
def SqX (K : PySem.W.Frag) (t : Bool) (H : Hp) (a : Addr) (xs : List V) : Prop := match t with
  | true => SqT K H a xs
  | false => SqL K H a xs
def IsX (t : Bool) (h : Heap) (a : Addr) (its : Array Value) : Prop := match t with
  | true => h.IsTuple a its
  | false => h.IsList a its
def IxX (t : Bool) (h : Heap) (it a : Addr) (i : Nat) : Prop := match t with
  | true => h.IsTupleIter it a i
  | false => h.IsListIter it a i
def oX (t : Bool) (a : Addr) : Obj := match t with
  | true => { cls := Value.type "tuple_iterator", data := Data.fields #[Value.ref a, Value.int 0 0] }
  | false => { cls := Value.type "list_iterator", data := Data.fields #[Value.ref a, Value.int 0 0] }
theorem draws_x {P : Program} {w : World} {A : Around} (hd : A.handled = none) (t : Bool) (it a : Addr) (ne : a ≠ it) (its : Array Value) :
    Draws P w A it [it, a] its.size (fun i v => its[i]? = some v) fun i h => IxX t h it a i ∧ IsX t h a its := by
  cases t with
  | true => exact Draws.tuple hd it a ne its
  | false => exact Draws.list hd it a ne its
theorem begins_x (t : Bool) (a : Addr) (its : Array Value) : Begins (.ref a) (oX t a) fun h => IsX t h a its := by
  cases t with
  | true => exact begins_tuple a its
  | false => exact begins_list a its
theorem ix_o {t : Bool} {h : Heap} {it a : Addr} (e : h.get? it = some (oX t a)) : IxX t h it a 0 := by
  cases t with
  | true => exact ⟨_, e, rfl, rfl⟩
  | false => exact ⟨_, e, rfl, rfl⟩
theorem IxX.obj {t : Bool} {h : Heap} {it a : Addr} {i : Nat} (e : IxX t h it a i) : ∃ o, h.get? it = some o ∧ ∀ v : Option Value, o.data ≠ Data.cell v := by
  cases t with
  | true =>
    obtain ⟨o, ho, _, hd⟩ := e
    exact ⟨o, ho, fun v q => by rw [hd] at q; cases q⟩
  | false =>
    obtain ⟨o, ho, _, hd⟩ := e
    exact ⟨o, ho, fun v q => by rw [hd] at q; cases q⟩
theorem IxX.at {t : Bool} {h h' : Heap} {it a : Addr} {i : Nat} (e : IxX t h it a i) (k : ∀ o, h.get? it = some o → h'.get? it = some o) : IxX t h' it a i := by
  cases t with
  | true =>
    obtain ⟨o, ho, r⟩ := e
    exact ⟨o, k o ho, r⟩
  | false =>
    obtain ⟨o, ho, r⟩ := e
    exact ⟨o, k o ho, r⟩
theorem inv_x {X : Cx} {pins : List (Addr × Obj)} {σ : L2.St} {H : Hp} {s : Shared} {t : Bool} {a : Addr} {xs : List V} (I : L2.Inv X pins σ H s) (h : SqX X.K t H a xs) :
    ∃ its, Vals xs its ∧ IsX t s.heap a its.toArray ∧ xs.length ≤ sizeLine := by
  cases t with
  | true => exact I.tuple h
  | false =>
    obtain ⟨its, r, p, l⟩ := I.list h
    exact ⟨its, r, p.isList, l⟩
theorem inj_x {X : Cx} {pins : List (Addr × Obj)} {σ : L2.St} {H : Hp} {s : Shared} {t : Bool} {a : Addr} {xs ys : List V} (I : L2.Inv X pins σ H s) (h : SqX X.K t H a xs) (h' : SqX X.K t H a ys) : xs = ys := by
  cases t with
  | true => exact I.tuple_inj h h'
  | false => exact I.list_inj h h'
theorem IsX.lt {t : Bool} {h : Heap} {a : Addr} {its : Array Value} (e : IsX t h a its) : a < h.objs.size := by
  cases t with
  | true =>
    obtain ⟨o, ho, _⟩ := e
    exact Heap.lt_size ho
  | false =>
    obtain ⟨o, ho, _⟩ := e
    exact Heap.lt_size ho
def ItzX (K : PySem.W.Frag) (t u : Bool) (a b : Addr) : It where
  go := fun i H => ∃ (xs ys : List V) (x y : V), SqX K t H a xs ∧ SqX K u H b ys ∧ xs[i]? = some x ∧ ys[i]? = some y
  yld := fun i H v H' => ∃ T x y, v = .ref T ∧ H T = none ∧ H' = upd H T (.tup [x, y]) ∧ (∀ xs, SqX K t H a xs → xs[i]? = some x) ∧ ∀ ys, SqX K u H b ys → ys[i]? = some y
  stop := fun i H => ∃ xs ys : List V, SqX K t H a xs ∧ SqX K u H b ys ∧ i ≤ xs.length ∧ i ≤ ys.length ∧ (xs.length = i ∨ ys.length = i)
theorem walk_zipX {K : PySem.W.Frag} {t u : Bool} {a b : Addr} {xs ys : List V} {n : Nat} (hn : n = min xs.length ys.length) :
    Walk (ItzX K t u a b) n (fun H => SqX K t H a xs ∧ SqX K u H b ys) (YPair (fun i => xs[i]?) fun i => ys[i]?) := by
  refine ⟨fun i _ hi q => ⟨xs, ys, _, _, q.1, q.2, List.getElem?_eq_getElem (by omega), List.getElem?_eq_getElem (by omega)⟩, fun _ q => ⟨xs, ys, q.1, q.2, by omega, by omega, by omega⟩, fun i H v H' _ q y => ?_⟩
  obtain ⟨T, x, y, h1, h2, h3, h4, h5⟩ := y
  exact ⟨T, x, y, h1, h2, h3, h4 xs q.1, h5 ys q.2⟩
theorem turn_zipX {P : Program} {w : World} {K : PySem.W.Frag} {elts : List PySem.Expr} {kk : Nat} {tpos : Pos} {t u : Bool} {a b z TI TO i1 i2 : Addr} (Z : ZipSep2 z TI TO i1 i2 [i1, a] [i2, b]) (na : a ≠ i1) (nb : b ≠ i2) :
    Turn P w K (.Tuple elts kk tpos) (ItzX K t u a b) [z, TI, TO, i1, i2] z (fun i h => IsZip h z TI TO .none ∧ IsTupOf2 h TI (.ref i1) (.ref i2) ∧ (∃ x y, IsTupOf2 h TO x y) ∧ IxX t h i1 a i ∧ IxX u h i2 b i) where
  mem := .head _
  obj := fun i h st c hc => by
    obtain ⟨s1, s2, ⟨x, y, s3⟩, s4, s5⟩ := st
    simp only [List.mem_cons, List.not_mem_nil, or_false] at hc
    rcases hc with e | e | e | e | e
    · rw [e]; exact ⟨_, s1, fun v q => nomatch q⟩
    · rw [e]; exact ⟨_, s2, fun v q => nomatch q⟩
    · rw [e]; exact ⟨_, s3, fun v q => nomatch q⟩
    · rw [e]; exact s4.obj
    · rw [e]; exact s5.obj
  keep := fun i h h' st k => by
    obtain ⟨s1, s2, ⟨x, y, s3⟩, s4, s5⟩ := st
    exact ⟨k z (by simp) _ s1, k TI (by simp) _ s2, ⟨x, y, k TO (by simp) _ s3⟩, s4.at fun o e => k i1 (by simp) o e, s5.at fun o e => k i2 (by simp) o e⟩
  item := by
    intro X hP hw hK hc i pins s σ H E I hf st hg
    subst hP hw hK
    obtain ⟨s1, s2, ⟨x0, y0, s3⟩, s4, s5⟩ := st
    obtain ⟨xs, ys, x, y, qx, qy, hx, hy⟩ := hg
    obtain ⟨ix, rx, px, lx⟩ := inv_x I qx
    obtain ⟨iy, ry, py, ly⟩ := inv_x I qy
    obtain ⟨ux, hux, rux⟩ := rx.get hx
    obtain ⟨uy, huy, ruy⟩ := ry.get hy
    have nx : i < ix.toArray.size := by
      have := List.getElem?_eq_some_iff.mp hux
      simpa using this.1
    have ny : i < iy.toArray.size := by
      have := List.getElem?_eq_some_iff.mp huy
      simpa using this.1
    have hd : X.A.in1.handled = none := show X.A.handled = none from I.ok.hd hc
    refine wpAny_pyNext_zipD2_item Z (draws_x hd t i1 a na _) (draws_x hd u i2 b nb _) s1 s2 s3 ⟨s4, px⟩ ⟨s5, py⟩ nx ny fun x1 x2 h' tk p1 p2 hz hTO t1 t2 hT hsz hk => ?_
    have e1 : x1 = ux := by
      have : ix.toArray[i]? = some x1 := p1
      rw [List.getElem?_toArray, hux] at this
      exact (Option.some.inj this).symm
    have e2 : x2 = uy := by
      have : iy.toArray[i]? = some x2 := p2
      rw [List.getElem?_toArray, huy] at this
      exact (Option.some.inj this).symm
    subst e1 e2
    have lz : z < s.heap.objs.size := Heap.lt_size s1
    have lTI : TI < s.heap.objs.size := Heap.lt_size s2
    have lTO : TO < s.heap.objs.size := Heap.lt_size s3
    have l1 : i1 < s.heap.objs.size := let ⟨_, q, _⟩ := s4.obj; Heap.lt_size q
    have l2 : i2 < s.heap.objs.size := let ⟨_, q, _⟩ := s5.obj; Heap.lt_size q
    refine ⟨_, rfl, wpAny_letOwnedTupleGo_zip (s := { s with heap := h', toks := tk }) hz fun h'' hz' sb => ?_⟩
    have hT2 : IsTupOf2 h'' s.heap.objs.size x1 x2 := (sb.2 _ (Nat.ne_of_gt lz)).trans hT
    have new : ObjOk X.prog X.w (upd H s.heap.objs.size (.tup [x, y])) h'' s.heap.objs.size (.tup [x, y]) :=
      ⟨show 2 ≤ sizeLine by decide, [x1, x2], .cons rux (.cons ruy .nil), ⟨_, hT2, rfl, _, rfl⟩⟩
    have I1 : L2.Inv X pins σ (upd H s.heap.objs.size (.tup [x, y])) { s with heap := h'', toks := tk } :=
      I.turnedNew (ch := [z, TI, TO, i1, i2]) (fun c ob hb q => by
        simp only [List.mem_cons, List.not_mem_nil, or_false, not_or] at hb
        exact (sb.2 c hb.1).trans (hk c ob hb.1 hb.2.2.1 hb.2.2.2.1 hb.2.2.2.2 q)) hf (Nat.le_refl _) new
    refine ⟨.ref s.heap.objs.size, _, I1, rfl, ⟨_, x, y, rfl, I.hok.fresh (Nat.le_refl _), rfl, fun zs hz => by rw [inj_x I hz qx]; exact hx, fun zs hz => by rw [inj_x I hz qy]; exact hy⟩, ⟨hz', ?_, ⟨x1, x2, (sb.2 TO Z.TOz).trans hTO⟩, t1.1.at fun o e => ?_, t2.1.at fun o e => ?_⟩, fun c hc => ?_⟩
    · refine (sb.2 TI Z.TIz).trans (hk TI _ Z.TIz Z.TITO Z.TIi1 Z.TIi2 s2)
    · exact (sb.2 i1 (fun e => Z.zf1 (e ▸ .head _))).trans e
    · exact (sb.2 i2 (fun e => Z.zf2 (e ▸ .head _))).trans e
    · have hb' : c < s.heap.objs.size := by
        simp only [List.mem_cons, List.not_mem_nil, or_false] at hc
        rcases hc with e | e | e | e | e
        · rw [e]; exact lz
        · rw [e]; exact lTI
        · rw [e]; exact lTO
        · rw [e]; exact l1
        · rw [e]; exact l2
      rw [upd_ne (Nat.ne_of_lt hb')]
      exact (hf c hc).1
  done := by
    intro X hP hw hK hc i pins s σ H E I hf st hg
    subst hP hw hK
    obtain ⟨s1, s2, ⟨x0, y0, s3⟩, s4, s5⟩ := st
    obtain ⟨xs, ys, qx, qy, h1, h2, h3⟩ := hg
    obtain ⟨ix, rx, px, lx⟩ := inv_x I qx
    obtain ⟨iy, ry, py, ly⟩ := inv_x I qy
    have hd : X.A.in1.handled = none := show X.A.handled = none from I.ok.hd hc
    have ex := rx.length
    have ey := ry.length
    refine wpAny_pyNext_zipD2_end Z (draws_x hd t i1 a na _) (draws_x hd u i2 b nb _) s1 s2 s3 ⟨s4, px⟩ ⟨s5, py⟩ (by simp; omega) (by simp; omega) (by simp; omega) fun h' tk hk => ⟨rfl, ?_⟩
    exact I.turnedL (ch := [z, TI, TO, i1, i2]) (fun c ob hb q => by
        simp only [List.mem_cons, List.not_mem_nil, or_false, not_or] at hb
        exact hk c ob hb.1 hb.2.2.1 hb.2.2.2.1 hb.2.2.2.2 q) hf
  self := fun A i s Q E st h => wpAny_pyIter_zip st.1 h
def iZipX (K : PySem.W.Frag) (ta : TA) : TI := fun σ H R => ta σ H fun vs H1 => ∃ t u a b xs ys, vs = [.ref a, .ref b] ∧ SqX K t H1 a xs ∧ SqX K u H1 b ys ∧ R (ItzX K t u a b) H1
theorem nm2 {n a b : Addr} (h1 : n ≠ a) (h2 : n ≠ b) : ¬ n ∈ [a, b] := fun m => by
  rcases List.mem_cons.mp m with e | e
  · exact h1 e
  · exact h2 (List.mem_singleton.mp e)
theorem zsep {n a b : Nat} (ha : a < n) (hb : b < n) : @ZipSep2 (n + 4) (n + 2) (n + 3) n (n + 1) [n, a] [n + 1, b] :=
  ⟨Nat.ne_of_lt (by omega), Nat.ne_of_lt (by omega), Nat.ne_of_lt (by omega), Nat.ne_of_gt (by omega), .head _, nm2 (Nat.ne_of_gt (by omega)) (Nat.ne_of_gt (by omega)), nm2 (Nat.ne_of_gt (by omega)) (Nat.ne_of_gt (by omega)),
   Nat.ne_of_gt (by omega), .head _, nm2 (Nat.ne_of_gt (by omega)) (Nat.ne_of_gt (by omega)), nm2 (Nat.ne_of_gt (by omega)) (Nat.ne_of_gt (by omega)), nm2 (Nat.ne_of_lt (by omega)) (Nat.ne_of_gt (by omega)), nm2 (Nat.ne_of_gt (by omega)) (Nat.ne_of_gt (by omega))⟩
theorem fiveLe {n c : Nat} (h : c ∈ [n + 4, n + 2, n + 3, n, n + 1]) : n ≤ c := by
  simp only [List.mem_cons, List.not_mem_nil, or_false] at h
  omega
theorem pi_zipX {X : Cx} {e e2 : PySem.Expr} {ta : TA} {p pos tpos : Pos} {elts : List PySem.Expr} {kk : Nat} (hg : Gl X "zip") (hm : X.mg "zip" = none) (ha : PA X [e, e2] ta)
    (hs : starEach [e, e2] X.env = (false, eval e X.env) :: starEach [e2] X.env := by rfl) (hn : (backTo pos (starEach [e2] X.env)).any (·.1) = false := by rfl) :
    PI X (.Tuple elts kk tpos) (.Call (.Name "zip" p) [e, e2] [] pos) (iZipX X.K ta) := by
  refine ⟨fun pins s σ H R I h => ?_⟩
  refine Call_ (ld_blt I hg hm boot_zip (PyProof.Rows.callWith_type1 (thn (ha.run pos pins s σ H _ I h) fun us s1 ⟨vs, H1, I1, r1, q1⟩ => ?_) hs hn))
  obtain ⟨t, u, a, b, xs, ys, ex, qx, qy, q⟩ := q1
  subst ex
  obtain ⟨u1, u2, rfl, ra, rb⟩ := vals2 r1
  cases ra
  cases rb
  obtain ⟨ix, rx, px, lx⟩ := inv_x I1 qx
  obtain ⟨iy, ry, py, ly⟩ := inv_x I1 qy
  refine zip_begins2 (begins_x t a ix.toArray) (begins_x u b iy.toArray) px py fun h' hz h2 h3 g1 g2 hsz hk => wpAny_pyIter_zip hz ?_
  have I2 : L2.Inv X pins σ H1 { s1 with heap := h' } := I1.kept (t' := s1.toks) hk
  have la := px.lt
  have lb := py.lt
  refine ⟨s1.heap.objs.size + 4, [s1.heap.objs.size + 4, s1.heap.objs.size + 2, s1.heap.objs.size + 3, s1.heap.objs.size, s1.heap.objs.size + 1], _, _, H1, rfl, I2, turn_zipX (zsep la lb) (Nat.ne_of_lt la) (Nat.ne_of_lt (Nat.lt_succ_of_lt lb)), ⟨hz, h2, ⟨_, _, h3⟩, ix_o g1, ix_o g2⟩, fun c hc => ?_, q⟩
  have hle : s1.heap.objs.size ≤ c := fiveLe hc
  exact I1.fpOk hle (I1.hok.fresh hle)

/-! ### all(a list of bools) -/
def rAll (K : PySem.W.Frag) : List V → Hp → VK → Prop := fun xs H Q => ∃ (a : Addr) (bs : List Bool), xs = [.ref a] ∧ SqL K H a (bs.map V.bl) ∧ Q (.bl (bs.all id)) H
theorem call_allL {X : Cx} (hc : X.calm = true) : CallR X (.builtin "all") (rAll X.K) := by
  intro pins s σ H xs us Q I r h
  obtain ⟨a, bs, rfl, hq, q⟩ := h
  obtain ⟨u, rfl, ra⟩ : ∃ u, us = [u] ∧ RelV (.ref a) u := by
    cases r with
    | cons h t =>
      cases t
      exact ⟨_, rfl, h⟩
  cases ra
  obtain ⟨its, rv, p, hz⟩ := I.list hq
  have hd : X.A.handled = none := I.ok.hd hc
  have ne : a ≠ s.heap.objs.size := fun e => by
    obtain ⟨o, ho, _⟩ := p.isList
    exact absurd (Heap.lt_size (e ▸ ho)) (Nat.lt_irrefl _)
  have hl := rv.length
  refine call_all_walk (wpAny_pyIter_list p.isList ?_)
  refine ⟨s.heap.objs.size, _, _, _, _, _, fun i => bs.getD i true, rfl, Walks.list (A := X.A.in1) (show X.A.handled = none from hd) _ _ ne its.toArray, ⟨⟨_, Heap.get?_push_size s.heap (by rfl), rfl, rfl⟩, p.isList.push _⟩, ?_, fun h' tk fr => ?_⟩
  · intro i v s' Q' E' pv hq'
    have pv' : its[i]? = some v := by simpa using pv
    have li : i < bs.length := by
      have := (List.getElem?_eq_some_iff.mp pv').1
      simp at hl
      omega
    have eb : (bs.map V.bl)[i]? = some (.bl bs[i]) := by simp [li]
    obtain ⟨u, hu, ru⟩ := rv.get eb
    rw [pv'] at hu
    cases Option.some.inj hu
    cases ru
    have : bs.getD i true = bs[i] := by simp [li]
    have hq2 : Q' (bs.getD i true) s' := hq'
    rw [this] at hq2
    exact wpAny_pure hq2
  · have e : (List.range its.toArray.size).all (fun i => bs.getD i true) = bs.all id := by
      have hs : its.toArray.size = bs.length := by simp at hl ⊢; omega
      rw [hs]
      rw [Bool.eq_iff_iff]
      simp only [List.all_eq_true, List.mem_range]
      constructor
      · intro h x hx
        obtain ⟨j, hj, e⟩ := List.getElem_of_mem hx
        have := h j hj
        simp [hj, e] at this
        exact this
      · intro h j hj
        simp [hj]
        exact h _ (List.getElem_mem hj)
    rw [e]
    refine ⟨V.bl (bs.all id), H, I.kept (t' := tk) fun b o hb => ?_, rfl, q⟩
    have lb := Heap.lt_size hb
    exact fr b o (fun m => Nat.ne_of_lt lb (List.mem_singleton.mp m)) (Heap.get?_push_of_some _ hb)
end Rm

set_option maxRecDepth 100000
set_option maxHeartbeats 4000000
namespace Rm
open PySem PySem.Spec L2
open PyProof.Rows hiding St

/-! ### a class of keywords alone -/
structure KwS (fd : FuncData) (ps ks : List Str) : Prop where
  to : ∀ (s : Shared) (u : Value) (ws : List Value), ws.length = ks.length → BindsTo s fd ⟨[u], ks.zip ws⟩ (ps.zip (u :: ws))
def CnKs (P : Program) (w : World) (K : PySem.W.Frag) (mg : Str → Option Value) (base : Heap) (CX : CXT)
    (k : Nat) (x : Str) (C : Addr) (ps ks : List Str) (sp : Sp) : Prop :=
  ∃ f fd, mg x = some (.ref C) ∧ Mk K C f ∧ KwS fd ps ks ∧ FnG P w K mg base CX k f fd ps sp
def tMakeKs (C : Addr) (m : Nat) (sp : Sp) (E : XK) (t : TA) : TE := fun σ H Q => t σ H fun zs H2 => zs.length = m ∧
  ∀ z dx, H2 z = none → H2 dx = none → dx ≠ z → sp (.ref z :: zs) (upd (upd H2 dx (.own z)) z (.ins C dx [])) (fun v H3 => v = .non ∧ Q (.ref z) H3) E
theorem pe_cnKs {X : Cx} {CX : CXT} {k : Nat} {C : Addr} {ps ks : List Str} {sp : Sp} {E : XK} {x : Str} {p pos : Pos} {kws : List Keyword} {tk : TA}
    (D : CnKs X.prog X.w X.K X.mg X.base CX k x C ps ks sp) (hr : Room (k + 1) X.A) (hG : Gd X.A) (ha : PK X kws tk) (hx : Passes CX X E)
    (hk : List.filterMap (fun x => x.fst) (backToKw pos (keywordEach kws X.env)) = ks := by rfl) (ho : ((backToKw pos (keywordEach kws X.env)).all fun x => x.fst.isSome) = true := by rfl)
    (hn : (((backTo pos (starEach [] X.env)).any fun x => x.fst) || (backToKw pos (keywordEach kws X.env)).any fun x => x.fst.isNone) = false := by rfl)
    (hg : Gl X x := by rfl) (hdb : (x == ("__debug__" : Str)) = false := by decide) :
    PE X (.Call (.Name x p) [] kws pos) (tMakeKs C ks.length sp E tk) := by
  obtain ⟨f, fd, hm, M, hb, F⟩ := D
  constructor
  intro pins s σ H Q I h
  refine wpAny_Call_Name_kw (ld_glob I hg hm ?_ hdb)
  refine PySem.W.callWith_KW0 (first := []) (h₀ := X.base) I.ok.mod.kin M.kp ho (thn (ha.run pos pins s σ H _ I h) fun us s2 hh => ?_) hn
  obtain ⟨vs, H2, I2, r1, hl, q2⟩ := hh
  refine ⟨I2.kIn, ?_⟩
  rw [hk]
  have hq := q2 (s2.heap.objs.size + 1) s2.heap.objs.size (I2.hok.fresh (Nat.le_succ _)) (I2.hok.fresh (Nat.le_refl _)) (Nat.ne_of_lt (Nat.lt_succ_self _))
  have I3 := Inv.made (C := C) I2
  refine wpAny_call (make_map (f := f) I2.kIn M.makes M.init (beq_iff_eq.mp M.fn)
    (codeAny_mono (F.run _ X.stack _ _ ⟨[Value.ref (s2.heap.objs.size + 1)], ks.zip us⟩ (Value.ref (s2.heap.objs.size + 1) :: us) _ _ E
      (hr.make C [] (ks.zip us)) (hG.make C [] (ks.zip us)) (I3.env0.make C [] (ks.zip us))
      (hb.to _ (Value.ref (s2.heap.objs.size + 1)) us (r1.length.symm.trans hl)) (show Vals (V.ref (s2.heap.objs.size + 1) :: vs) _ from .cons rfl r1) hq) fun r s' hq' => ?_))
  match r, hq' with
  | .error er, hq' => exact hx pins σ _ _ er s' I3 hq'
  | .ok (.ret z), hq' =>
    obtain ⟨v, H', I4, rz, ev, q3⟩ := I3.after hq'
    subst ev
    exact ⟨rz, V.ref (s2.heap.objs.size + 1), H', I4, rfl, q3⟩
  | .ok .next, hq' => exact False.elim hq'
  | .ok .brk, hq' => exact False.elim hq'
  | .ok .cont, hq' => exact False.elim hq'
end Rm

set_option maxRecDepth 100000
set_option maxHeartbeats 4000000
namespace Rm
open PySem PySem.Spec L2
open PyProof.Rows hiding St

/-! ### x in own, own[x], len(own) by own methods -/
def OwnM (P : Program) (w : World) (K : PySem.W.Frag) (mg : Str → Option Value) (base : Heap) (CX : CXT) (k : Nat) (C : Addr) (m : Str) (ps : List Str) (sp : Sp) : Prop :=
  ∃ f fd, PySem.W.findIn K (.ref C) m = some (some (.ref f)) ∧ PySem.W.isFn K (.ref f) = true ∧ PySem.W.fnIn K f = true ∧ Binds K fd ps [] ∧ FnG P w K mg base CX k f fd ps sp
def rOwnIn (neg : Bool) (C : Addr) (sp : Sp) : R2 := fun x y H Q => ∃ a dx fs, y = .ref a ∧ H a = some (.ins C dx fs) ∧ sp [y, x] H (fun z H' => ∃ c, z = .bl c ∧ Q (.bl (neg ^^ c)) H') E0
section
variable {X : Cx} {k : Nat} {C : Addr} {ps : List Str} {sp : Sp}
theorem called {CX : CXT} {f : Addr} {fd : FuncData} {E : St → XK} {pins : List (Addr × Obj)} {σ : L2.St} {H : Hp} {s : Shared} {Q : VK} {us : List Value} {vs : List V}
    (F : FnG X.prog X.w X.K X.mg X.base CX k f fd ps sp) (hb : Binds X.K fd ps []) (hr : Room (k + 1) X.A) (hG : Gd X.A) (hx : ∀ σ, PassesAt CX X σ (E σ)) (I : Inv X pins σ H s) (r : Vals vs us)
    (q : sp vs H Q (E σ)) : wpAny (model X.prog X.w) X.A.in1 (call (.ref f) us) (EP X pins σ Q) X.xe s := by
  have hl : us.length = ps.length := by rw [← r.length]; exact F.len _ _ _ _ q
  refine wpAny_call (codeAny_mono (F.run X.A.in1 X.stack s H ⟨us, []⟩ us vs Q (E σ) hr.in1 hG.in1 I.env0.in1 (by have := hb s us I.kIn (by simpa using hl); simpa using this) r q) fun rr s' hq => ?_)
  match rr, hq with
  | .error er, hq => exact hx σ pins H s er s' I hq
  | .ok (.ret z), hq => exact I.after hq
  | .ok .next, hq => exact False.elim hq
  | .ok .brk, hq => exact False.elim hq
  | .ok .cont, hq => exact False.elim hq
theorem called0 {CX : CXT} {f : Addr} {fd : FuncData} {E : St → XK} {pins : List (Addr × Obj)} {σ : L2.St} {H : Hp} {s : Shared} {Q : VK} {us : List Value} {vs : List V}
    (F : FnG X.prog X.w X.K X.mg X.base CX k f fd ps sp) (hb : Binds X.K fd ps []) (hr : Room k X.A) (hG : Gd X.A) (hx : ∀ σ, PassesAt CX X σ (E σ)) (I : Inv X pins σ H s) (r : Vals vs us)
    (q : sp vs H Q (E σ)) : wpAny (model X.prog X.w) X.A (call (.ref f) us) (EP X pins σ Q) X.xe s :=
  goesS (dvs := []) (ds := []) F hr hG hb .nil hx I r (by rw [List.append_nil]; exact q)
theorem op_ownIn (D : OwnM X.prog X.w X.K X.mg X.base CX0 k C "__contains__" ps sp) (hr : Room k X.A) (hG : Gd X.A) : OpR X (compareOp .In) (rOwnIn false C sp) := by
  intro pins s σ H x y v u Q I rx ry h
  obtain ⟨a, dx, fs, rfl, ha, q⟩ := h
  cases ry
  obtain ⟨f, fd, hs, hf, _, hb, F⟩ := D
  obtain ⟨mA, O, _⟩ := ins_get I.hok ha
  obtain ⟨od, J, _⟩ := O.look
  obtain ⟨m, hF⟩ := I.fr
  refine PySem.W.in_K hF I.ok.mod.kin J hs hf (thn (called0 (vs := [.ref a, x]) (E := fun _ => E0) F hb hr hG (fun _ _ _ _ _ _ _ h => h.elim) I (.cons rfl (.cons rx .nil)) q) fun r s' hq => ?_)
  obtain ⟨z, H', I', rz, c, rfl, qq⟩ := hq
  cases rz
  exact wpAny_pure ⟨.bl c, H', I', rfl, by simpa using qq⟩
theorem op_ownNotIn (D : OwnM X.prog X.w X.K X.mg X.base CX0 k C "__contains__" ps sp) (hr : Room k X.A) (hG : Gd X.A) : OpR X (compareOp .NotIn) (rOwnIn true C sp) := by
  intro pins s σ H x y v u Q I rx ry h
  obtain ⟨a, dx, fs, rfl, ha, q⟩ := h
  cases ry
  obtain ⟨f, fd, hs, hf, _, hb, F⟩ := D
  obtain ⟨mA, O, _⟩ := ins_get I.hok ha
  obtain ⟨od, J, _⟩ := O.look
  obtain ⟨m, hF⟩ := I.fr
  refine PySem.W.notIn_K hF I.ok.mod.kin J hs hf (thn (called0 (vs := [.ref a, x]) (E := fun _ => E0) F hb hr hG (fun _ _ _ _ _ _ _ h => h.elim) I (.cons rfl (.cons rx .nil)) q) fun r s' hq => ?_)
  obtain ⟨z, H', I', rz, c, rfl, qq⟩ := hq
  cases rz
  exact wpAny_pure ⟨.bl (!c), H', I', rfl, by simpa using qq⟩
def tIxOwn (C : Addr) (sp : Sp) (E : St → XK) (ta tb : TE) : TE := fun σ H Q => ta σ H fun x H1 => tb σ H1 fun y H2 => ∃ a dx fs, x = .ref a ∧ H2 a = some (.ins C dx fs) ∧ sp [x, y] H2 Q (E σ)
theorem pe_ixOwn {CX : CXT} {E : St → XK} {a b : PySem.Expr} {ta tb : TE} {pos : Pos} (D : OwnM X.prog X.w X.K X.mg X.base CX k C "__getitem__" ps sp) (hr : Room (k + 1) X.A) (hG : Gd X.A)
    (hx : ∀ σ, PassesAt CX X σ (E σ)) (ha : PE X a ta) (hb : PE X b tb)
    (hs : ∀ (x : Addr) (i : Value), subscripted b true (Value.ref x) i = runValue (Code.builtin "lifetime.subscript" { pos := [Value.ref x, i] }) := by intro _ _; rfl) :
    PE X (.Subscript a b pos) (tIxOwn C sp E ta tb) := by
  obtain ⟨f, fd, h1, hf, h2, hbi, F⟩ := D
  refine ⟨fun pins s σ H Q I h => ?_⟩
  refine PyProof.Rows.Subscript_ (thn (ha.run pins s σ H _ I h) fun u s1 ⟨x, H1, I1, rx, h1'⟩ => thn (hb.run pins s1 σ H1 _ I1 h1') fun v s2 ⟨y, H2, I2, ry, z, dx, fs, ex, hz, q⟩ => ?_)
  subst ex
  cases rx
  obtain ⟨mA, O, _⟩ := ins_get I2.hok hz
  obtain ⟨od, J, _⟩ := O.look
  obtain ⟨m, hF⟩ := I2.fr
  exact PySem.W.sub_K hF I2.ok.mod.kin J h1 h2 hf (called (vs := [.ref z, y]) F hbi hr hG hx I2 (.cons rfl (.cons ry .nil)) q) (hs _ _)
def rLenOwn (C : Addr) (sp : Sp) : List V → Hp → VK → Prop := fun xs H Q => ∃ a dx fs, xs = [.ref a] ∧ H a = some (.ins C dx fs) ∧ sp [.ref a] H (fun z H' => ∃ n : Nat, z = .int (n : Int) ∧ n < 2 ^ 63 ∧ Q (.int (n : Int)) H') E0
theorem call_lenOwn (D : OwnM X.prog X.w X.K X.mg X.base CX0 k C "__len__" ps sp) (hr : Room (k + 1) X.A) (hG : Gd X.A) : CallR X (.builtin "len") (rLenOwn C sp) := by
  intro pins s σ H xs us Q I r h
  obtain ⟨a, dx, fs, rfl, ha, q⟩ := h
  obtain ⟨u, rfl, ra⟩ : ∃ u, us = [u] ∧ RelV (.ref a) u := by
    cases r with
    | cons h t =>
      cases t
      exact ⟨_, rfl, h⟩
  cases ra
  obtain ⟨f, fd, h1, hf, h2, hbi, F⟩ := D
  obtain ⟨mA, O, _⟩ := ins_get I.hok ha
  obtain ⟨od, J, _⟩ := O.look
  obtain ⟨m, hF⟩ := I.fr
  refine PySem.W.len_K hF I.ok.mod.kin J h1 hf (thn (called (vs := [.ref a]) (E := fun _ => E0) F hbi hr hG (fun _ _ _ _ _ _ _ h => h.elim) I (.cons rfl .nil) q) fun r s' hq => ?_)
  obtain ⟨z, H', I', rz, n, rfl, ln, qq⟩ := hq
  obtain ⟨t, rfl⟩ := rz
  exact ⟨⟨by omega, by omega⟩, .int (n : Int), H', I'.tok _, ⟨_, rfl⟩, qq⟩
end
end Rm

set_option maxRecDepth 100000
set_option maxHeartbeats 4000000
namespace Rm
open PySem PySem.Spec L2
open PyProof.Rows hiding St

/-! ### data of tuples and plain values stay where tuples stay -/
mutual
def tO : PyData → Bool
  | .none => true
  | .bool _ => true
  | .int _ => true
  | .str _ => true
  | .tuple ds => tOA ds
  | _ => false
def tOA : List PyData → Bool
  | [] => true
  | d :: ds => tO d && tOA ds
end
mutual
theorem dx_keepT {K : PySem.W.Frag} {H H' : Hp} (k : TupK H H') : ∀ {d : PyData} {v : V}, tO d = true → Dx K H v d → Dx K H' v d
  | .none, _, _, .non => .non
  | .bool _, _, _, .bl b => .bl b
  | .int _, _, _, .int i => .int i
  | .str _, _, _, .str z => .str z
  | .tuple _, _, h, .tup hs ha => .tup (hs.imp (k _ _) id) (dxa_keepT k (by simpa only [tO] using h) ha)
theorem dxa_keepT {K : PySem.W.Frag} {H H' : Hp} (k : TupK H H') : ∀ {ds : List PyData} {vs : List V}, tOA ds = true → DxAll K H vs ds → DxAll K H' vs ds
  | [], _, _, .nil => .nil
  | d :: ds, _, h, .cons hx ha => by
    simp only [tOA, Bool.and_eq_true] at h
    exact .cons (dx_keepT k h.1 hx) (dxa_keepT k h.2 ha)
end
theorem tOA_of {ds : List PyData} (h : ∀ d ∈ ds, tO d = true) : tOA ds = true := by
  induction ds with
  | nil => rfl
  | cons d ds ih =>
    simp only [tOA, Bool.and_eq_true]
    exact ⟨h d (.head _), ih fun x hx => h x (.tail _ hx)⟩

/-! ### a def that may raise as one that does not -/
theorem FnG.quiet {P : Program} {w : World} {K : PySem.W.Frag} {mg : Str → Option Value} {base : Heap} {k : Nat} {f : Addr} {fd : FuncData} {ps : List Str} {sp : Sp} (F : FnG P w K mg base (L2.CX P w) k f fd ps sp) :
    FnG P w K mg base CX0 k f fd ps (fun vs H Q _ => sp vs H Q E0) :=
  ⟨fun vs H Q E h => F.len vs H Q E0 h, fun A outer s H ar us vs Q E hr hG e0 hb hv h => codeAny_mono (F.run A outer s H ar us vs Q E0 hr hG e0 hb hv h) fun r s' q => by
    match r, q with
    | .error e, q =>
      obtain ⟨_, _, _, _, _, _, _, _, _, _, _, _, z⟩ := q
      exact z.elim
    | .ok (.ret u), q => exact q
    | .ok .next, q => exact q
    | .ok .brk, q => exact q
    | .ok .cont, q => exact q⟩

/-! ### a method of keywords alone -/
def CmKs (P : Program) (w : World) (K : PySem.W.Frag) (mg : Str → Option Value) (base : Heap) (CX : CXT) (k : Nat) (C : Addr) (m : Str) (ps ks : List Str) (sp : Sp) : Prop :=
  ∃ f fd, Cls K C ∧ Meth K C m f ∧ KwS fd ps ks ∧ FnG P w K mg base CX k f fd ps sp
def tMethKs (C : Addr) (m : Str) (n : Nat) (sp : Sp) (E : XK) (ta : TE) (t : TA) : TE := fun σ H Q => ta σ H fun x H1 => ∃ a dx fs, x = .ref a ∧ H1 a = some (.ins C dx fs) ∧ List.lookup m fs = none ∧ t σ H1 fun zs H2 => zs.length = n ∧ sp (x :: zs) H2 Q E
theorem pe_cmKs {X : Cx} {CX : CXT} {k : Nat} {C : Addr} {m : Str} {ps ks : List Str} {sp : Sp} {E : XK} {pos apos : Pos} {o : PySem.Expr} {kws : List Keyword} {ta : TE} {tk : TA} {pl : Sem Bool}
    (D : CmKs X.prog X.w X.K X.mg X.base CX k C m ps ks sp) (hr : Room k X.A) (hG : Gd X.A) (he : PE X o ta) (ha : PK X kws tk) (hx : Passes CX X E)
    (hk : List.filterMap (fun x => x.fst) (backToKw pos (keywordEach kws X.env)) = ks := by rfl) (ho : ((backToKw pos (keywordEach kws X.env)).all fun x => x.fst.isSome) = true := by rfl)
    (hn : (((backTo pos (starEach [] X.env)).any fun x => x.fst) || (backToKw pos (keywordEach kws X.env)).any fun x => x.fst.isNone) = false := by rfl)
    (ht : eval (.Call (.Attribute o m apos) [] kws pos) X.env = (do
      let ov ← eval o X.env
      standAt apos.atName
      let (g, first) ← holding [ov] (getMethod ov m pl)
      callWith pos g first (backTo pos (starEach [] X.env)) (backToKw pos (keywordEach kws X.env))) := by rfl) :
    PE X (.Call (.Attribute o m apos) [] kws pos) (tMethKs C m ks.length sp E ta tk) := by
  obtain ⟨f, fd, c, hm, hb, F⟩ := D
  constructor
  intro pins s σ H Q I h
  refine PySem.W.methodCall_KW (pl := pl)
    (thn (he.run pins s σ H _ I h) fun u s1 ⟨z, H1, I1, rz, a, dx, fs, ez, ea, l, q⟩ => ?_) ht
  subst ez
  cases rz
  refine getmeth_ok I1 ea c hm l (PySem.W.callWith_KW0 (first := [.ref a]) (h₀ := X.base) I1.ok.mod.kin hm.kp ho
    (thn (ha.run pos pins s1 σ H1 _ I1 q) fun us s2 hh => ?_) hn)
  obtain ⟨vs, H2, I2, r1, hl, q2⟩ := hh
  refine ⟨I2.kIn, ?_⟩
  rw [hk]
  refine wpAny_call (codeAny_mono (F.run X.A X.stack s2 H2 ⟨[.ref a], ks.zip us⟩ (.ref a :: us) (.ref a :: vs) Q E hr hG I2.env0
    (hb.to s2 (.ref a) us (r1.length.symm.trans hl)) (.cons rfl r1) q2) fun r s' hq => came hx I2 hq)

/-! ### a dict == {} -/
def rEqDE : R2 := fun x y H Q => ∃ a kvs b, x = .ref a ∧ H a = some (.dK kvs) ∧ y = .ref b ∧ H b = some (.dK []) ∧ Q (.bl kvs.isEmpty) H
theorem op_eqDE {X : Cx} (hu : X.A.units < cLine) : OpR X (compareOp .Eq) rEqDE := by
  intro pins s σ H x y v u Q I rx ry h
  obtain ⟨a, kvs, b, rfl, ha, rfl, hb, q⟩ := h
  cases rx
  cases ry
  obtain ⟨la, na, vs, kv, da⟩ := I.hok _ _ ha
  obtain ⟨lb, nb, us, ku, db⟩ := I.hok _ _ hb
  have l1 := kv.length
  have l2 := ku.length
  have hl2 : us.length = 0 := by simpa using l2.symm
  refine PySem.W.rcP_dicts (r := true) na nb da db hu (fun e => ?_) _ _ ?_
  · have : vs = [] := List.eq_nil_of_length_eq_zero (by omega)
    subst this
    exact .nil
  · refine ⟨.bl kvs.isEmpty, H, I, ?_, q⟩
    have e : (vs.length == us.length && true) = kvs.isEmpty := by
      rw [hl2, ← l1, Bool.and_true]
      cases kvs <;> simp
    rw [e]
    rfl
end Rm

set_option maxRecDepth 100000
set_option maxHeartbeats 4000000
namespace K14
open PySem PySem.Spec L2 Rm
open PyProof.Rows hiding St
def top (i : Nat) : Stmt := PySem.Challenge.pw_rowmarks_k14_books_of_sets.main.body.getD i (.Pass ⟨0, 0, 0, 0⟩)
abbrev s__wall : Stmt := top 0
abbrev s_UnknownSet___init__ : Stmt := inClass (top 3) 0
abbrev s_is_whole : Stmt := top 5
abbrev s_SetBook___init__ : Stmt := inClass (top 7) 0
abbrev s_SetBook_write : Stmt := inClass (top 7) 1
abbrev s_SetBook_put : Stmt := inClass (top 7) 2
abbrev s_SetBook_forget : Stmt := inClass (top 7) 3
abbrev s_SetBook_taken : Stmt := inClass (top 7) 4
abbrev s_SetBook_members : Stmt := inClass (top 7) 5
abbrev s_SetBook_fitting : Stmt := inClass (top 7) 6
abbrev s_SetBook__check_taken : Stmt := inClass (top 7) 7
abbrev s_SetBook___getitem__ : Stmt := inClass (top 7) 8
abbrev s_SetBook___contains__ : Stmt := inClass (top 7) 9
abbrev s_SetBook___len__ : Stmt := inClass (top 7) 10
abbrev s_SetBook___iter__ : Stmt := inClass (top 7) 11
abbrev s__law_tape : Stmt := top 9
abbrev s__law_pick : Stmt := top 10
abbrev s__law_one_of : Stmt := top 11
abbrev s__law_any : Stmt := top 12
abbrev s__law_list : Stmt := top 13
abbrev s__law_got : Stmt := top 14
abbrev s__law_gone : Stmt := top 15
abbrev s__law_is_there : Stmt := top 16
abbrev s__law_right : Stmt := top 17
abbrev s__law_least : Stmt := top 18
abbrev s__law_step_right : Stmt := top 19
abbrev s_law : Stmt := top 20
/-- the names that are built-in still -/
structure Bl (mg : Str → Option Value) : Prop where
  n_int : mg "int" = none
  n_len : mg "len" = none
  n_isinstance : mg "isinstance" = none
  n_str : mg "str" = none
  n_range : mg "range" = none
  n_max : mg "max" = none
  n_min : mg "min" = none
  n_list : mg "list" = none
  n_repr : mg "repr" = none
  n_enumerate : mg "enumerate" = none
  n_tuple : mg "tuple" = none
  n_sorted : mg "sorted" = none
  n_bool : mg "bool" = none
  n_dict : mg "dict" = none
  n_set : mg "set" = none
  n_ValueError : mg "ValueError" = none
section
variable {P : Program} {w : World} {K : PySem.W.Frag} {mg : Str → Option Value} {base : Heap}
theorem sc__law_pick : FnScope ["_law_tape_here", "_law_many", "_law_found", "_law_once"] ["_law_tape_here", "_law_many"] (defScope s__law_pick) :=
  ⟨rfl, rfl, rfl, by decide +kernel, rfl, by decide +kernel, by decide +kernel⟩
theorem ok_pick {f : Addr} {fd : FuncData} (F : Fun K "_law_pick" "_law_pick" s__law_pick f fd) (B : Bl mg) :
    FnG P w K mg base CX0 1 f fd ["_law_tape_here", "_law_many"] spPick := by
  refine fn_q F sc__law_pick (fun vs H Q E h => ?_) (fun cdv A outer s H vs Q E hr hG h => ?_)
  · obtain ⟨t, o, n, rfl, _⟩ := h
    rfl
  · obtain ⟨t, o, n, rfl, ht, ⟨dg, mx, rfl, ok⟩, h1, h2, k⟩ := h
    have hu := hu_of hr
    obtain ⟨hd0, hm0, hm1⟩ := ok
    refine ⟨_, (pss_cons (ps_if (pt_cmpR op_ge (pe_dget hu (pv 0) pe_str (fun _ _ => rfl)) (pv 1) (nomark _)) (pss_cons (ps_set (i := 2) sc__law_pick.nd rfl (Or.inl rfl) (pe_op op_modN (pe_callTy call_int1 (by rfl) B.n_int (by decide +kernel) (pa_cons (pe_dget hu (pv 0) pe_str (fun _ _ => rfl)) pa_nil)) (pv 1)))
      (pss_cons (ps_dput hu (pv 0) pe_str (pe_op op_fdivN (pe_dget hu (pv 0) pe_str (fun _ _ => rfl)) (pv 1)) rfl)
      (pss_one (ps_ret (pv 2))))) pss_nil)
      (pss_cons (ps_dput hu (pv 0) pe_str (pe_op op_mod (pe_callTy call_int1 (by rfl) B.n_int (by decide +kernel) (pa_cons (pe_op op_add (pe_op op_mulX (pe_dget hu (pv 0) pe_str (fun _ _ => rfl)) pe_int) pe_int) pa_nil)) pe_int) rfl)
      (pss_cons (ps_set (i := 3) sc__law_pick.nd rfl (Or.inl rfl) (pe_op op_mod (pe_callTy call_int1 (by rfl) B.n_int (by decide +kernel) (pa_cons (pe_op op_powX (pe_dget hu (pv 0) pe_str (fun _ _ => rfl)) pe_int) pa_nil)) pe_int))
      (pss_one (ps_ret (pe_op op_modN (pe_callTy call_int1 (by rfl) B.n_int (by decide +kernel) (pa_cons (pe_op op_fdiv (pe_op op_mod (pe_callTy call_int1 (by rfl) B.n_int (by decide +kernel) (pa_cons (pe_op op_powX (pv 3) pe_int) pa_nil)) pe_int) pe_int) pa_nil)) (pv 1))))))), ?_⟩
    refine ⟨_, rfl, _, _, rfl, tape_dg ht, _, rfl, _, _, rfl, rfl, _, rfl, ite2 (fun c => ?_) fun c => ?_⟩
    · have hn : n ≠ 0 := by omega
      refine ⟨_, rfl, _, _, rfl, tape_dg ht, .inl ⟨_, rfl, _, rfl, _, _, rfl, rfl, hn, ?_⟩⟩
      refine ⟨_, rfl, _, _, rfl, tape_dg ht, _, rfl, _, _, rfl, rfl, ⟨hn, by omega⟩, _, rfl, _, _, rfl, tape_pd ht, ?_⟩
      refine ⟨_, rfl, k _ _ ?_ ?_ ⟨_, _, rfl, ?_, hm0, hm1⟩⟩
      · exact Int.fmod_nonneg_of_pos _ (by omega)
      · exact Int.fmod_lt_of_pos _ (by omega)
      · exact Int.fdiv_nonneg hd0 (by omega)
    · have e1 : CMulX mx 40014 := mulx_ok (a := 32) (b := 32) (by omega) (by decide) (by decide)
      refine ⟨_, rfl, _, _, rfl, tape_mx ht, _, _, rfl, rfl, e1, _, _, rfl, rfl, .inl ⟨_, rfl, _, _, rfl, rfl, ?_, _, rfl, _, _, rfl, tape_pm ht, ?_⟩⟩
      · show (0 : Int) < 2147483563
        decide
      have m0 : 0 ≤ (mx * 40014 + 1017) % 2147483563 := Int.emod_nonneg _ (by decide)
      have m1 : (mx * 40014 + 1017) % 2147483563 < 2147483563 := Int.emod_lt_of_pos _ (by decide)
      have o0 : 0 ≤ ((mx * 40014 + 1017) % 2147483563) ^ (2 : Int).toNat % 2147483399 := Int.emod_nonneg _ (by decide)
      have o1 : ((mx * 40014 + 1017) % 2147483563) ^ (2 : Int).toNat % 2147483399 < 2147483399 := Int.emod_lt_of_pos _ (by decide)
      refine ⟨_, rfl, _, _, rfl, tape_mx upd_same, _, _, rfl, rfl, pow32 m0 (by omega) (by decide) (by decide), .inl ⟨_, rfl, _, _, rfl, rfl, ?_, ?_⟩⟩
      · show (0 : Int) < 2147483399
        decide
      refine ⟨_, rfl, _, _, rfl, rfl, pow32 o0 (by omega) (by decide) (by decide), .inl ⟨_, rfl, _, _, rfl, rfl, ?_, _, _, rfl, rfl, ?_, .inl ⟨_, rfl, _, rfl, _, _, rfl, rfl, (show n ≠ 0 by omega), ?_⟩⟩⟩
      · show (0 : Int) < 998244353
        decide
      · exact ⟨by decide, by decide⟩
      exact k _ _ (Int.fmod_nonneg_of_pos _ (by omega)) (Int.fmod_lt_of_pos _ (by omega)) ⟨_, _, rfl, hd0, m0, by omega⟩
theorem sc__law_one_of : FnScope ["_law_tape_here", "_law_items"] ["_law_tape_here", "_law_items"] (defScope s__law_one_of) :=
  ⟨rfl, rfl, rfl, by decide +kernel, rfl, by decide +kernel, by decide +kernel⟩
theorem ok_one {f : Addr} {fd : FuncData} (F : Fun K "_law_one_of" "_law_one_of" s__law_one_of f fd) (B : Bl mg)
    (D__law_pick : Ce P w K mg base CX0 1 "_law_pick" ["_law_tape_here", "_law_many"] spPick) :
    FnG P w K mg base CX0 2 f fd ["_law_tape_here", "_law_items"] (spOne K) := by
  refine fn_q F sc__law_one_of (fun vs H Q E h => ?_) (fun cdv A outer s H vs Q E hr hG h => ?_)
  · obtain ⟨t, l, o, xs, rfl, _⟩ := h
    rfl
  · obtain ⟨t, l, o, xs, rfl, ht, ho, hl, h1, h2, k⟩ := h
    have hu := hu_of hr
    refine ⟨_, (pss_one (ps_ret (pe_ix ix_list (pv 1) (pe_ce D__law_pick (hr.mono (by decide)) hG (pa_cons (pv 0) (pa_cons (pe_callB call_len_seq (by rfl) B.n_len (by decide +kernel) (pa_cons (pv 1) pa_nil)) pa_nil)) pass0) (fun _ _ => rfl)))), ?_⟩
    refine ⟨_, rfl, _, rfl, _, rfl, _, _, rfl, .inl hl, t, o, _, rfl, ht, ho, by omega, by omega, fun n o' n0 n1 ho' => ?_⟩
    have hb : n.toNat < xs.length := by omega
    refine ⟨_, _, _, _, rfl, rfl, sq_tape hl ht ho, ?_, k n.toNat _ _ (List.getElem?_eq_getElem hb) ho'⟩
    have e := atI_nat (xs := xs) (j := n.toNat) (v := xs[n.toNat]) (List.getElem?_eq_getElem hb)
    rw [Int.toNat_of_nonneg n0] at e
    exact e
theorem sc__law_tape : FnScope ["_law_script", "_law_start", "_law_mixed", "_law_cell", "_law_digits"] ["_law_script", "_law_start"] (defScope s__law_tape) :=
  ⟨rfl, rfl, rfl, by decide +kernel, rfl, by decide +kernel, by decide +kernel⟩
theorem ok_tape {f : Addr} {fd : FuncData} (F : Fun K "_law_tape" "_law_tape" s__law_tape f fd) (B : Bl mg) :
    FnG P w K mg base CX0 1 f fd ["_law_script", "_law_start"] (spTape K) := by
  refine fn_q F sc__law_tape (fun vs H Q E h => ?_) (fun cdv A outer s H vs Q E hr hG h => ?_)
  · obtain ⟨a, ns, z, rfl, _⟩ := h
    rfl
  · obtain ⟨a, ns, z, rfl, hl, hn, hbits, z0, z1, k⟩ := h
    have hu := hu_of hr
    refine ⟨_, (pss_cons (ps_set (i := 2) sc__law_tape.nd rfl (Or.inl rfl) (pe_op op_add pe_int (pe_op op_mulX (pv 1) pe_int)))
      (pss_cons (ps_for PassesOwn.never rfl (pi_list (pv 0)) (pg_name (i := 3) sc__law_tape.nd rfl (Or.inl rfl)) (pss_one (ps_set (i := 2) sc__law_tape.nd rfl (Or.inl rfl) (pe_op op_add (pe_op op_mod (pe_callTy call_int1 (by rfl) B.n_int (by decide +kernel) (pa_cons (pe_op op_powX (pe_op op_add (pe_op op_add (pe_op op_mulX (pv 2) pe_int) (pe_op op_mulX (pv 3) (pv 3))) pe_int) pe_int) pa_nil)) pe_int) pe_int))))
      (pss_cons (ps_set (i := 4) sc__law_tape.nd rfl (Or.inl rfl) (pe_ifExp (PW.pt (pw_and (pt_cmpR op_lt (pv 1) (pe_callB call_len_seq (by rfl) B.n_len (by decide +kernel) (pa_cons (pv 0) pa_nil)) (nomark _)) (pw_and1 (pt_cmpR op_ge (pe_ix ix_list (pv 0) (pv 1) (fun _ _ => rfl)) (pe_op op_powX pe_int pe_int) (nomark _))))) (pe_op op_sub (pe_ix ix_list (pv 0) (pv 1) (fun _ _ => rfl)) (pe_op op_powX pe_int pe_int)) pe_int))
      (pss_one (ps_ret (pe_disp (pps_cons pe_str (pv 4) (pps_cons pe_str (pv 2) pps_nil)) (by rfl) (by rfl) (fun z => by cases z) (by decide))))))), ?_⟩
    refine ⟨_, rfl, _, _, rfl, rfl, mulx_ok (a := 32) (b := 32) (by omega) (by decide) (by decide), _, _, rfl, rfl, ?_⟩
    refine ⟨_, rfl, a, rfl, ⟨_, hl⟩, for_list (xs := ns.map V.int) (fun i σ H' => H' = H ∧ ∃ m c, σ = [some (.ref a), some (.int z), some (.int m), c, none] ∧ 0 ≤ m ∧ m < 4294967296) ⟨rfl, _, _, rfl, by omega, by omega⟩ (fun i σ H' hi e => by rw [e.1]; exact hl) ?_ ?_⟩
    · rintro i x σ H' hx ⟨rfl, m, c, rfl, m0, m1⟩
      obtain ⟨y, hy, rfl⟩ : ∃ y, y ∈ ns ∧ x = V.int y := by
        rw [List.getElem?_map] at hx
        cases e : ns[i]? with
        | none => rw [e] at hx; cases hx
        | some y => rw [e] at hx; cases hx; exact ⟨y, List.mem_of_getElem? e, rfl⟩
      obtain ⟨c1, c2, c3⟩ := mix_pow m0 m1 (hbits y hy)
      refine ⟨_, rfl, _, _, rfl, rfl, c1, _, rfl, _, rfl, _, _, rfl, rfl, c2, _, _, rfl, rfl, _, _, rfl, rfl, _, _, rfl, rfl, c3, .inl ⟨_, rfl, _, _, rfl, rfl, ?_, _, _, rfl, rfl, rfl, _, _, rfl, ?_, ?_⟩⟩
      · show (0 : Int) < 2147483563
        decide
      · have := Int.emod_nonneg ((m * 30013 + y * y + 11) ^ (2 : Int).toNat) (show (2147483563 : Int) ≠ 0 by decide)
        omega
      · have := Int.emod_lt_of_pos ((m * 30013 + y * y + 11) ^ (2 : Int).toNat) (show (0 : Int) < 2147483563 by decide)
        omega
    · rintro σ H' ⟨rfl, m, c, rfl, m0, m1⟩
      have fin : ∀ d : Int, 0 ≤ d → ∀ p, H' p = none → Q (.ref p) (upd (upd H' p (.dK [])) p (tapeO d m)) := fun d d0 p hp => by
        rw [upd_upd]
        exact k p _ hp ⟨d, m, rfl, d0, m0, m1⟩
      have ends : ∀ d : Int, 0 ≤ d → (tRet (tDisp [((tC (V.str "digits")), tVar 4), ((tC (V.str "mixed")), tVar 2)])) { nx := fun _ H' => Q .non H', rt := Q } [some (.ref a), some (.int z), some (.int m), c, some (.int d)] H' := fun d d0 p hp => by
        have e : mergeK [] [((Sum.inr "digits" : Key), V.int d), (Sum.inr "mixed", V.int m)] = [((Sum.inr "digits" : Key), V.int d), (Sum.inr "mixed", V.int m)] := by
          simp [mergeK, putK, s_dm]
        refine ⟨_, rfl, _, rfl, upd_same, [(Sum.inr "digits", V.int d), (Sum.inr "mixed", V.int m)], rfl, by show 2 ≤ 15; decide, ?_⟩
        rw [e]
        exact fin d d0 p hp
      refine ⟨_, rfl, _, rfl, _, _, rfl, .inl hl, _, _, rfl, rfl, _, rfl, ite2 (fun c => ?_) fun c => ?_⟩
      · rw [List.length_map] at c
        have hb : z.toNat < ns.length := by
          have := of_decide_eq_true c
          omega
        have at_ : atI (ns.map V.int) z = some (V.int ns[z.toNat]) := by
          have e := atI_nat (xs := ns.map V.int) (j := z.toNat) (v := V.int ns[z.toNat]) (by rw [List.getElem?_map, List.getElem?_eq_getElem hb]; rfl)
          rw [Int.toNat_of_nonneg z0] at e
          exact e
        have p18 : CPowX 10 18 := pow32 (by decide) (by decide) (by decide) (by decide)
        refine ⟨_, rfl, _, rfl, _, _, _, _, rfl, rfl, hl, at_, _, _, rfl, rfl, p18, _, _, rfl, rfl, _, rfl, ite2 (fun c => ?_) fun c => ?_⟩
        · refine ⟨_, rfl, _, rfl, _, _, _, _, rfl, rfl, hl, at_, _, _, rfl, rfl, p18, _, _, rfl, rfl, ends _ ?_⟩
          have := of_decide_eq_true c
          omega
        · exact ends 0 (by decide)
      · exact ends 0 (by decide)
theorem sc__law_any : FnScope ["_law_tape_here", "_law_some"] ["_law_tape_here"] (defScope s__law_any) :=
  ⟨rfl, rfl, rfl, by decide +kernel, rfl, by decide +kernel, by decide +kernel⟩
theorem ok_any {f : Addr} {fd : FuncData} (F : Fun K "_law_any" "_law_any" s__law_any f fd)
    (D__law_one_of : Ce P w K mg base CX0 2 "_law_one_of" ["_law_tape_here", "_law_items"] (spOne K)) :
    FnG P w K mg base CX0 3 f fd ["_law_tape_here"] (spAnyN K) := by
  refine fn_q F sc__law_any (fun vs H Q E h => ?_) (fun cdv A outer s H vs Q E hr hG h => ?_)
  · obtain ⟨t, o, rfl, _⟩ := h
    rfl
  · obtain ⟨t, o, rfl, ht, ho, q⟩ := h
    have hu := hu_of hr
    refine ⟨_, (pss_cons (ps_set (i := 1) sc__law_any.nd rfl (Or.inl rfl) (pe_lst (pa_cons pe_non (pa_cons pe_bl (pa_cons pe_bl (pa_cons pe_int (pa_cons pe_int (pa_cons pe_int (pa_cons pe_int (pa_cons (pe_op op_sub pe_int pe_int) (pa_cons (pe_op op_powX pe_int pe_int) (pa_cons pe_str (pa_cons pe_str (pa_cons pe_str (pa_cons pe_str (pa_cons pe_str (pa_cons pe_str (pa_cons pe_str pa_nil))))))))))))))))))
      (pss_cons (ps_set (i := 1) sc__law_any.nd rfl (Or.inl rfl) (pe_op op_cat (pv 1) (pe_lst (pa_cons pe_str (pa_cons (pe_tup pa_nil) (pa_cons (pe_lst pa_nil) (pa_cons pe_dnewK (pa_cons (pe_tup (pa_cons pe_int pa_nil)) (pa_cons (pe_lst (pa_cons pe_int pa_nil)) (pa_cons (pe_disp (pps_cons pe_str pe_int pps_nil) (by rfl) (by rfl) (fun z => by cases z) (by decide)) (pa_cons (pe_tup (pa_cons pe_int (pa_cons pe_str (pa_cons pe_str pa_nil)))) (pa_cons (pe_tup (pa_cons pe_str pa_nil)) (pa_cons (pe_lst (pa_cons pe_str pa_nil)) (pa_cons pe_str pa_nil))))))))))))))
      (pss_one (ps_ret (pe_ce D__law_one_of (hr.mono (by decide)) hG (pa_cons (pv 0) (pa_cons (pv 1) pa_nil)) pass0))))), ?_⟩
    let x1 : List V := [.non, .bl true, .bl false, .int 0, .int 1, .int 2, .int 7, .int (0 - 1), .int (10 ^ (40 : Int).toNat), .str "", .str "a", .str "x",
      .str "hold", .str "locks", .str "Hold", .str "change "]
    have l16 : 16 ≤ sizeLine := by decide
    have lz : ∀ n, n ≤ 16 → n ≤ sizeLine := fun n h => Nat.le_trans h l16
    refine ⟨0, 1, rfl, rfl, 10, 40, rfl, rfl, ⟨by decide, by decide⟩, l16, fun p1 n1 => ?_⟩
    have N1 := new_at (.lst x1) n1 ht
    refine ⟨_, rfl, lz 0 (by decide), fun p2 n2 => ?_⟩
    have N2 := new_at (.tup []) n2 N1.th
    refine ⟨lz 0 (by decide), fun p3 n3 => ?_⟩
    have N3 := new_at (.lst []) n3 N2.th
    refine fun p4 n4 => ?_
    have N4 := new_at (.dK []) n4 N3.th
    refine ⟨lz 1 (by decide), fun p5 n5 => ?_⟩
    have N5 := new_at (.tup [.int 1]) n5 N4.th
    refine ⟨lz 1 (by decide), fun p6 n6 => ?_⟩
    have N6 := new_at (.lst [.int 1]) n6 N5.th
    refine fun p7 n7 => ⟨upd_same, [(.inr "x", .int 1)], rfl, by show 1 ≤ 15; decide, ?_⟩
    rw [upd_upd]
    have N7 := new_at (.dK [(.inr "x", .int 1)]) n7 N6.th
    refine ⟨lz 3 (by decide), fun p8 n8 => ?_⟩
    have N8 := new_at (.tup [.int 1, .str "locks", .str "hold"]) n8 N7.th
    refine ⟨lz 1 (by decide), fun p9 n9 => ?_⟩
    have N9 := new_at (.tup [.str "hold"]) n9 N8.th
    refine ⟨lz 1 (by decide), fun p10 n10 => ?_⟩
    have N10 := new_at (.lst [.str "hold"]) n10 N9.th
    refine ⟨lz 11 (by decide), fun p11 n11 => ?_⟩
    let x2 : List V := [.str "abcdefg", .ref p2, .ref p3, .ref p4, .ref p5, .ref p6, .ref p7, .ref p8, .ref p9, .ref p10, .str "1"]
    have N11 := new_at (.lst x2) n11 N10.th
    have S1 := ((((((((N2.s.trans N3.s).trans N4.s).trans N5.s).trans N6.s).trans N7.s).trans N8.s).trans N9.s).trans N10.s).trans N11.s
    refine ⟨p1, p11, x1, x2, rfl, rfl, S1 _ _ upd_same, upd_same, (show 27 ≤ sizeLine by decide), fun p12 n12 => ?_⟩
    have N12 := new_at (.lst (x1 ++ x2)) n12 N11.th
    refine ⟨_, rfl, _, rfl, t, p12, o, x1 ++ x2, rfl, N12.th, ho, .inl (.inl upd_same), (show 1 ≤ 27 by decide), (show 27 ≤ 1000000 by decide), fun i v o' hv ho' => ?_⟩
    let ds : List PyData := [.none, .bool true, .bool false, .int 0, .int 1, .int 2, .int 7, .int (0 - 1), .int (10 ^ (40 : Int).toNat), .str "", .str "a", .str "x",
      .str "hold", .str "locks", .str "Hold", .str "change ", .str "abcdefg", .tuple [], .list [], .dict [], .tuple [.int 1], .list [.int 1],
      .dict [(.str "x", .int 1)], .tuple [.int 1, .str "locks", .str "hold"], .tuple [.str "hold"], .list [.str "hold"], .str "1"]
    have t2 := N1.s
    have t3 := t2.trans N2.s
    have t4 := t3.trans N3.s
    have t5 := t4.trans N4.s
    have t6 := t5.trans N5.s
    have t7 := t6.trans N6.s
    have t8 := t7.trans N7.s
    have t9 := t8.trans N8.s
    have t10 := t9.trans N9.s
    have g12 := N12.s
    have g11 := N11.s.trans g12
    have g10 := N10.s.trans g11
    have g9 := N9.s.trans g10
    have g8 := N8.s.trans g9
    have g7 := N7.s.trans g8
    have g6 := N6.s.trans g7
    have g5 := N5.s.trans g6
    have g4 := N4.s.trans g5
    have g3 := N3.s.trans g4
    have hd : ∃ d, ds[i]? = some d ∧ Dx K _ v d := DxAll.get (H := _) (vs := x1 ++ x2) (ds := ds)
      (.cons .non <| .cons (.bl _) <| .cons (.bl _) <| .cons (.int _) <| .cons (.int _) <| .cons (.int _) <| .cons (.int _) <| .cons (.int _) <| .cons (.int _) <|
        .cons (.str _) <| .cons (.str _) <| .cons (.str _) <| .cons (.str _) <| .cons (.str _) <| .cons (.str _) <| .cons (.str _) <| .cons (.str _) <|
        .cons (.tup (.inl (.inl (nw_at (o' := o') ht (none_of t2 n2) (g3 _ _ upd_same)))) .nil) <| .cons (.lst (.inl (.inl (nw_at (o' := o') ht (none_of t3 n3) (g4 _ _ upd_same)))) .nil) <| .cons (.dic (.inl (nw_at (o' := o') ht (none_of t4 n4) (g5 _ _ upd_same))) .nil) <|
        .cons (.tup (.inl (.inl (nw_at (o' := o') ht (none_of t5 n5) (g6 _ _ upd_same)))) (.cons (.int _) .nil)) <| .cons (.lst (.inl (.inl (nw_at (o' := o') ht (none_of t6 n6) (g7 _ _ upd_same)))) (.cons (.int _) .nil)) <|
        .cons (.dic (.inl (nw_at (o' := o') ht (none_of t7 n7) (g8 _ _ upd_same))) (.cons (k := .inr "x") (.int _) .nil)) <|
        .cons (.tup (.inl (.inl (nw_at (o' := o') ht (none_of t8 n8) (g9 _ _ upd_same)))) (.cons (.int _) (.cons (.str _) (.cons (.str _) .nil)))) <|
        .cons (.tup (.inl (.inl (nw_at (o' := o') ht (none_of t9 n9) (g10 _ _ upd_same)))) (.cons (.str _) .nil)) <| .cons (.lst (.inl (.inl (nw_at (o' := o') ht (none_of t10 n10) (g11 _ _ upd_same)))) (.cons (.str _) .nil)) <|
        .cons (.str _) .nil) hv
    obtain ⟨d, h1, h2⟩ := hd
    refine q v d _ h2 (Sv.all (ds := ds) (by decide +kernel) h1) ⟨fun b u hb ne => ?_, _, upd_same, ho'⟩
    rw [upd_ne ne]
    exact N12.s _ _ (S1 _ _ (N1.s _ _ hb))

def isI : PyData → Bool
  | .int _ => true
  | _ => false
theorem sc_is_whole : FnScope ["value"] ["value"] (defScope s_is_whole) :=
  ⟨rfl, rfl, rfl, by decide +kernel, rfl, by decide +kernel, by decide +kernel⟩
theorem ok_whole {f : Addr} {fd : FuncData} (F : Fun K "is_whole" "is_whole" s_is_whole f fd) (B : Bl mg) :
    FnG P w K mg base CX0 1 f fd ["value"] (fun vs H Q _ => ∃ x d, vs = [x] ∧ Dx K H x d ∧ Q (.bl (isI d)) H) := by
  refine fn_q F sc_is_whole (fun vs H Q E h => ?_) (fun cdv A outer s H vs Q E hr hG h => ?_)
  · obtain ⟨x, d, rfl, _⟩ := h
    rfl
  · obtain ⟨x, d, rfl, hx, q⟩ := h
    have hu := hu_of hr
    refine ⟨_, (pss_one (ps_ret (pe_and (pe_callB call_isi (by rfl) B.n_isinstance (by decide +kernel) (pa_cons (pv 0) (pa_cons (pe_bltn (v := .ty "int") (u := .type "int") (by rfl) B.n_int (by decide +kernel) rfl) pa_nil))) (pe_one (pe_not (pe_callB call_isi (by rfl) B.n_isinstance (by decide +kernel) (pa_cons (pv 0) (pa_cons (pe_bltn (v := .ty "bool") (u := .type "bool") (by rfl) B.n_bool (by decide +kernel) rfl) pa_nil)))))))), ?_⟩
    refine ⟨x, rfl, x, .ty "int", _, _, _, rfl, .ty _, hx.tyx, kit_kd (T := "int") (by simp) d, ?_⟩
    cases d with
    | bool b => exact ⟨true, rfl, x, rfl, x, .ty "bool", _, _, _, rfl, .ty _, hx.tyx, kit_kd (T := "bool") (by simp) _, true, rfl, q⟩
    | int i => exact ⟨true, rfl, x, rfl, x, .ty "bool", _, _, _, rfl, .ty _, hx.tyx, kit_kd (T := "bool") (by simp) _, false, rfl, q⟩
    | _ => exact ⟨false, rfl, q⟩
/-! ### a book -/
structure BkC (K : PySem.W.Frag) (C : Addr) : Prop where
  oc : OwnC K C
  ns : NoAttr K C "_sets"
/-- the entries of a dict of sets -/
def Ents (kvs : List (Key × V)) (D : List (Int × V)) : Prop := kvs = D.map fun e => (Sum.inl e.1, e.2)
def valD (D : List (Int × V)) (n : Int) : Option V := (D.find? fun e => decide (e.1 = n)).map (·.2)
def enV (D : List (Int × V)) : List (Key × V) := D.map fun e => (Sum.inl e.1, e.2)
theorem en_val (D : List (Int × V)) (n : Int) : valV (enV D) (Sum.inl n) = valD D n := by
  unfold valV valD enV
  rw [List.find?_map, Option.map_map]
  have e : ((fun kv : Key × V => decide (kv.1 = Sum.inl n)) ∘ fun e : Int × V => ((Sum.inl e.1 : Key), e.2)) = fun e => decide (e.1 = n) := by
    funext e
    simp
  rw [e]
  rfl
theorem en_put {D : List (Int × V)} {n : Int} {v : V} (h : valD D n = none) : putK (enV D) (Sum.inl n) v = enV (D ++ [(n, v)]) := by
  rw [putK_new v (by rw [en_val]; exact h)]
  unfold enV
  rw [List.map_append]
  rfl
def dropD (D : List (Int × V)) (n : Int) : List (Int × V) := D.filter fun e => decide (e.1 ≠ n)
theorem en_drop (D : List (Int × V)) (n : Int) : dropK (enV D) (Sum.inl n) = enV (dropD D n) := by
  unfold dropK enV dropD
  rw [List.filter_map]
  congr 1
  refine List.filter_congr fun e _ => ?_
  simp
theorem en_len (D : List (Int × V)) : (enV D).length = D.length := List.length_map ..
def IsB (C : Addr) (H : Hp) (b s : Addr) : Prop := ∃ dx, H b = some (.ins C dx [("_sets", .ref s)])
def hasD (D : List (Int × V)) : PyData → Bool
  | .int i => (valD D i).isSome
  | _ => false
def spNewB (C : Addr) : Sp := fun vs H Q _ => ∃ a dx, vs = [.ref a] ∧ H a = some (.ins C dx []) ∧ ∀ s, H s = none → Q .non (upd (upd H s (.dK [])) a (.ins C dx [("_sets", .ref s)]))
theorem sc_SetBook___init__ : FnScope ["self"] ["self"] (defScope s_SetBook___init__) :=
  ⟨rfl, rfl, rfl, by decide +kernel, rfl, by decide +kernel, by decide +kernel⟩
theorem ok_new {f CM : Addr} {fd : FuncData} (F : Fun K "__init__" "SetBook.__init__" s_SetBook___init__ f fd) (MC : BkC K CM) :
    FnG P w K mg base CX0 1 f fd ["self"] (spNewB CM) := by
  refine fn_q F sc_SetBook___init__ (fun vs H Q E h => ?_) (fun cdv A outer s H vs Q E hr hG h => ?_)
  · obtain ⟨a, dx, rfl, _⟩ := h
    rfl
  · obtain ⟨a, dx, rfl, ha, q⟩ := h
    have hu := hu_of hr
    refine ⟨_, (pss_one (ps_fld (pv 0) pe_dnewK rfl)), ?_⟩
    refine fun p np => ?_
    have pa : a ≠ p := fun e => by rw [e, np] at ha; cases ha
    refine ⟨_, rfl, a, _, _, _, rfl, (upd_ne pa).trans ha, MC.oc.cls, MC.ns, by decide, q p np⟩
def spHas (K : PySem.W.Frag) (C : Addr) : Sp := fun vs H Q _ => ∃ b s D x d, vs = [.ref b, x] ∧ IsB C H b s ∧ H s = some (.dK (enV D)) ∧ Dx K H x d ∧ Q (.bl (hasD D d)) H
theorem sc_SetBook___contains__ : FnScope ["self", "number"] ["self", "number"] (defScope s_SetBook___contains__) :=
  ⟨rfl, rfl, rfl, by decide +kernel, rfl, by decide +kernel, by decide +kernel⟩
theorem ok_has {f CM : Addr} {fd : FuncData} (F : Fun K "__contains__" "SetBook.__contains__" s_SetBook___contains__ f fd) (MC : BkC K CM)
    (D_is_whole : Ce P w K mg base CX0 1 "is_whole" ["value"] (fun vs H Q _ => ∃ x d, vs = [x] ∧ Dx K H x d ∧ Q (.bl (isI d)) H)) :
    FnG P w K mg base CX0 2 f fd ["self", "number"] (spHas K CM) := by
  refine fn_q F sc_SetBook___contains__ (fun vs H Q E h => ?_) (fun cdv A outer s H vs Q E hr hG h => ?_)
  · obtain ⟨b, s', D, x, d, rfl, _⟩ := h
    rfl
  · obtain ⟨b, s', D, x, d, rfl, ⟨dx, hb⟩, hs, hx, q⟩ := h
    have hu := hu_of hr
    refine ⟨_, (pss_one (ps_ret (pe_and (pe_ce D_is_whole (hr.mono (by decide)) hG (pa_cons (pv 1) pa_nil) pass0) (pe_one (pe_cmp (pc_din hu (pv 1) (pe_fld (pv 0) rfl)) rfl))))), ?_⟩
    refine ⟨_, rfl, x, d, rfl, hx, ?_⟩
    cases d with
    | int i =>
      cases hx
      refine ⟨true, rfl, _, rfl, _, rfl, b, _, _, _, _, rfl, hb, MC.oc.cls, MC.ns, rfl, s', _, rfl, .inl ⟨_, Sum.inl i, .inl hs, rfl, rfl⟩, ?_⟩
      rw [en_val]
      exact q
    | _ => exact ⟨false, rfl, q⟩
def spLenB (C : Addr) : Sp := fun vs H Q _ => ∃ b s D, vs = [.ref b] ∧ IsB C H b s ∧ H s = some (.dK (enV D)) ∧ Q (.int (D.length : Nat)) H
theorem sc_SetBook___len__ : FnScope ["self"] ["self"] (defScope s_SetBook___len__) :=
  ⟨rfl, rfl, rfl, by decide +kernel, rfl, by decide +kernel, by decide +kernel⟩
theorem ok_len {f CM : Addr} {fd : FuncData} (F : Fun K "__len__" "SetBook.__len__" s_SetBook___len__ f fd) (B : Bl mg) (MC : BkC K CM) :
    FnG P w K mg base CX0 1 f fd ["self"] (spLenB CM) := by
  refine fn_q F sc_SetBook___len__ (fun vs H Q E h => ?_) (fun cdv A outer s H vs Q E hr hG h => ?_)
  · obtain ⟨b, s', D, rfl, _⟩ := h
    rfl
  · obtain ⟨b, s', D, rfl, ⟨dx, hb⟩, hs, q⟩ := h
    have hu := hu_of hr
    refine ⟨_, (pss_one (ps_ret (pe_callB call_lenD (by rfl) B.n_len (by decide +kernel) (pa_cons (pe_fld (pv 0) rfl) pa_nil)))), ?_⟩
    refine ⟨_, rfl, b, _, _, _, _, rfl, hb, MC.oc.cls, MC.ns, rfl, s', _, rfl, hs, ?_⟩
    rw [en_len]
    exact q
end
end K14

set_option maxRecDepth 100000
set_option maxHeartbeats 4000000
namespace K14
open PySem PySem.Spec L2 Rm
open PyProof.Rows hiding St
section
variable {P : Program} {w : World} {K : PySem.W.Frag} {mg : Str → Option Value} {base : Heap}
def spChkX (K : PySem.W.Frag) (C UC : Addr) : Sp := fun vs H Q E => ∃ b s D x d, vs = [.ref b, x] ∧ IsB C H b s ∧ H s = some (.dK (enV D)) ∧ Dx K H x d ∧ (hasD D d = true → Q .non H) ∧
  (hasD D d = false → ∀ e, H e = none → E (.ref UC) (some e) (upd H e (.xd [("value", x)])))
theorem sc_SetBook__check_taken : FnScope ["self", "number"] ["self", "number"] (defScope s_SetBook__check_taken) :=
  ⟨rfl, rfl, rfl, by decide +kernel, rfl, by decide +kernel, by decide +kernel⟩
theorem ok_chk {f CM UC : Addr} {fd : FuncData} (F : Fun K "_check_taken" "SetBook._check_taken" s_SetBook__check_taken f fd) (X_UnknownSet : Er P w K mg base "UnknownSet" UC "value")
    (IN_SetBook : OwnM P w K mg base CX0 2 CM "__contains__" ["self", "number"] (spHas K CM)) :
    FnG P w K mg base (L2.CX P w) 5 f fd ["self", "number"] (spChkX K CM UC) := by
  refine fn_in F sc_SetBook__check_taken (fun vs H Q E h => ?_) (fun cdv A outer s H vs Q E hr hG h => ?_)
  · obtain ⟨b, s', D, x, d, rfl, _⟩ := h
    rfl
  · obtain ⟨b, s', D, x, d, rfl, hb, hs, hx, q, e⟩ := h
    have hu := hu_of hr
    refine ⟨_, (pss_one (ps_if (pt_cmpR (op_ownNotIn IN_SetBook (hr.mono (by decide)) hG) (pv 1) (pv 0) (by rfl)) (pss_one (ps_raise rfl (takes_of rfl rfl rfl rfl) (pmk_er X_UnknownSet (hr.mono (by decide)) hG (pv 1)))) pss_nil)), ?_⟩
    obtain ⟨dx, hb'⟩ := id hb
    refine ⟨_, rfl, _, rfl, b, dx, _, rfl, hb', b, s', D, x, d, rfl, hb, hs, hx, _, rfl, _, rfl, ?_⟩
    cases c : hasD D d with
    | true => exact q c
    | false => exact ⟨_, rfl, _, rfl, fun e' he => e c e' he⟩
def spGetX (K : PySem.W.Frag) (C UC : Addr) : Sp := fun vs H Q E => ∃ b s D x d, vs = [.ref b, x] ∧ IsB C H b s ∧ H s = some (.dK (enV D)) ∧ Dx K H x d ∧ (∀ i v, d = .int i → valD D i = some v → Q v H) ∧
  (hasD D d = false → ∀ e, H e = none → E (.ref UC) (some e) (upd H e (.xd [("value", x)])))
theorem has_is {D : List (Int × V)} {d : PyData} (h : hasD D d = true) : ∃ i v, d = .int i ∧ valD D i = some v := by
  cases d with
  | int i =>
    cases e : valD D i with
    | none =>
      have h : (valD D i).isSome = true := h
      rw [e] at h
      cases h
    | some v => exact ⟨i, v, rfl, e⟩
  | _ => cases h
theorem sc_SetBook___getitem__ : FnScope ["self", "number"] ["self", "number"] (defScope s_SetBook___getitem__) :=
  ⟨rfl, rfl, rfl, by decide +kernel, rfl, by decide +kernel, by decide +kernel⟩
theorem ok_get {f CM UC : Addr} {fd : FuncData} (F : Fun K "__getitem__" "SetBook.__getitem__" s_SetBook___getitem__ f fd) (MC : BkC K CM)
    (M_SetBook__check_taken : Cm P w K mg base (L2.CX P w) 5 CM "_check_taken" ["self", "number"] (spChkX K CM UC)) :
    FnG P w K mg base (L2.CX P w) 6 f fd ["self", "number"] (spGetX K CM UC) := by
  refine fn_in F sc_SetBook___getitem__ (fun vs H Q E h => ?_) (fun cdv A outer s H vs Q E hr hG h => ?_)
  · obtain ⟨b, s', D, x, d, rfl, _⟩ := h
    rfl
  · obtain ⟨b, s', D, x, d, rfl, hb, hs, hx, q, e⟩ := h
    have hu := hu_of hr
    refine ⟨_, (pss_cons (ps_expr (pe_cm M_SetBook__check_taken (hr.mono (by decide)) hG (pv 0) (pa_cons (pv 1) pa_nil) (passes_call (takes_of rfl rfl rfl rfl) (fun _ _ _ _ h => h))))
      (pss_one (ps_ret (pe_dget hu (pe_fld (pv 0) rfl) (pv 1) (fun _ _ => rfl))))), ?_⟩
    obtain ⟨dx, hb'⟩ := id hb
    refine ⟨_, rfl, b, dx, _, rfl, hb', rfl, _, rfl, b, s', D, x, d, rfl, hb, hs, hx, fun c => ?_, e⟩
    obtain ⟨i, v, rfl, hv⟩ := has_is c
    cases hx
    refine ⟨_, rfl, b, _, _, _, _, rfl, hb', MC.oc.cls, MC.ns, rfl, _, rfl, s', v, rfl, .inl ⟨_, Sum.inl i, .inl hs, rfl, ?_⟩, q i v rfl hv⟩
    rw [en_val]
    exact hv.symm
def spForX (K : PySem.W.Frag) (C UC : Addr) : Sp := fun vs H Q E => ∃ b s D x d, vs = [.ref b, x] ∧ IsB C H b s ∧ H s = some (.dK (enV D)) ∧ Dx K H x d ∧ (∀ i, d = .int i → (valD D i).isSome = true → Q .non (upd H s (.dK (enV (dropD D i))))) ∧
  (hasD D d = false → ∀ e, H e = none → E (.ref UC) (some e) (upd H e (.xd [("value", x)])))
theorem sc_SetBook_forget : FnScope ["self", "number"] ["self", "number"] (defScope s_SetBook_forget) :=
  ⟨rfl, rfl, rfl, by decide +kernel, rfl, by decide +kernel, by decide +kernel⟩
theorem ok_for {f CM UC : Addr} {fd : FuncData} (F : Fun K "forget" "SetBook.forget" s_SetBook_forget f fd) (MC : BkC K CM)
    (M_SetBook__check_taken : Cm P w K mg base (L2.CX P w) 5 CM "_check_taken" ["self", "number"] (spChkX K CM UC)) :
    FnG P w K mg base (L2.CX P w) 6 f fd ["self", "number"] (spForX K CM UC) := by
  refine fn_in F sc_SetBook_forget (fun vs H Q E h => ?_) (fun cdv A outer s H vs Q E hr hG h => ?_)
  · obtain ⟨b, s', D, x, d, rfl, _⟩ := h
    rfl
  · obtain ⟨b, s', D, x, d, rfl, hb, hs, hx, q, e⟩ := h
    have hu := hu_of hr
    refine ⟨_, (pss_cons (ps_expr (pe_cm M_SetBook__check_taken (hr.mono (by decide)) hG (pv 0) (pa_cons (pv 1) pa_nil) (passes_call (takes_of rfl rfl rfl rfl) (fun _ _ _ _ h => h))))
      (pss_one (ps_ddel (pe_fld (pv 0) rfl) (pv 1)))), ?_⟩
    obtain ⟨dx, hb'⟩ := id hb
    refine ⟨_, rfl, b, dx, _, rfl, hb', rfl, _, rfl, b, s', D, x, d, rfl, hb, hs, hx, fun c => ?_, e⟩
    obtain ⟨i, v, rfl, hv⟩ := has_is c
    cases hx
    refine ⟨_, rfl, b, _, _, _, _, rfl, hb', MC.oc.cls, MC.ns, rfl, _, rfl, s', _, Sum.inl i, rfl, hs, rfl, by rw [en_val, hv]; rfl, ?_⟩
    rw [en_drop]
    exact q i rfl (by rw [hv]; rfl)
def spPut (K : PySem.W.Frag) (C : Addr) : Sp := fun vs H Q _ => ∃ (b s l : Addr) (D : List (Int × V)) (n : Int) (xs : List V), vs = [.ref b, .int n, .ref l] ∧ IsB C H b s ∧ H s = some (.dK (enV D)) ∧ valD D n = none ∧ D.length < 100 ∧ (SqL K H l xs ∨ SqT K H l xs) ∧
  ∀ t H', H' s = some (.dK (enV (D ++ [(n, .ref t)]))) → SqT K H' t xs → (∀ b u, H b = some u → b ≠ s → H' b = some u) → Q .non H'
theorem sqt_put {K : PySem.W.Frag} {H : Hp} {t s : Addr} {xs : List V} {o : HO} {kvs : List (Key × V)} (h : SqT K H t xs) (hs : H s = some (.dK kvs)) : SqT K (upd H s o) t xs :=
  h.imp (TupK.put hs (fun _ e => by cases e) (fun _ _ e => by cases e) _ _) id
theorem sc_SetBook_put : FnScope ["self", "number", "members"] ["self", "number", "members"] (defScope s_SetBook_put) :=
  ⟨rfl, rfl, rfl, by decide +kernel, rfl, by decide +kernel, by decide +kernel⟩
theorem ok_put {f CM : Addr} {fd : FuncData} (F : Fun K "put" "SetBook.put" s_SetBook_put f fd) (B : Bl mg) (MC : BkC K CM) :
    FnG P w K mg base CX0 1 f fd ["self", "number", "members"] (spPut K CM) := by
  refine fn_q F sc_SetBook_put (fun vs H Q E h => ?_) (fun cdv A outer s H vs Q E hr hG h => ?_)
  · obtain ⟨b, s', l, D, n, xs, rfl, _⟩ := h
    rfl
  · obtain ⟨b, s', l, D, n, xs, rfl, ⟨dx, hb⟩, hs, hn, hd, hl, q⟩ := h
    have hu := hu_of hr
    refine ⟨_, (pss_one (ps_dput hu (pe_fld (pv 0) rfl) (pv 1) (pe_callTy call_tuple_of (by rfl) B.n_tuple (by decide +kernel) (pa_cons (pv 2) pa_nil)) rfl)), ?_⟩
    have ln : (enV D).length < sizeLine := by rw [en_len]; exact Nat.lt_trans hd (by decide)
    rcases hl with hl | hl
    · refine ⟨_, rfl, l, xs, rfl, .inl ⟨hl, fun t nt => ?_⟩⟩
      have hs2 := same_new (o := .tup xs) nt _ _ hs
      refine ⟨_, rfl, b, _, _, _, _, rfl, same_new nt _ _ hb, MC.oc.cls, MC.ns, rfl, _, rfl, s', _, rfl, .inl ⟨_, Sum.inl n, hs2, rfl, ln, rfl⟩, ?_⟩
      rw [en_put hn]
      exact q t _ upd_same (sqt_put (.inl (.inl upd_same)) hs2) fun x u hx ne => (upd_ne ne).trans (same_new nt _ _ hx)
    · refine ⟨_, rfl, l, xs, rfl, .inr ⟨hl, ?_⟩⟩
      refine ⟨_, rfl, b, _, _, _, _, rfl, hb, MC.oc.cls, MC.ns, rfl, _, rfl, s', _, rfl, .inl ⟨_, Sum.inl n, hs, rfl, ln, rfl⟩, ?_⟩
      rw [en_put hn]
      exact q l _ upd_same (sqt_put hl hs) fun x u hx ne => (upd_ne ne).trans hx
def spTaken (C : Addr) : Sp := fun vs H Q _ => ∃ b s D, vs = [.ref b] ∧ IsB C H b s ∧ H s = some (.dK (enV D)) ∧ D.length < 64 ∧ ∀ (ys : List Int) p, ys.Perm (D.map (·.1)) → ys.Pairwise (fun a b => a ≤ b) → H p = none → Q (.ref p) (upd H p (.lst (ys.map V.int)))
theorem sc_SetBook_taken : FnScope ["self"] ["self"] (defScope s_SetBook_taken) :=
  ⟨rfl, rfl, rfl, by decide +kernel, rfl, by decide +kernel, by decide +kernel⟩
theorem ok_taken {f CM : Addr} {fd : FuncData} (F : Fun K "taken" "SetBook.taken" s_SetBook_taken f fd) (B : Bl mg) (MC : BkC K CM) :
    FnG P w K mg base CX0 1 f fd ["self"] (spTaken CM) := by
  refine fn_q F sc_SetBook_taken (fun vs H Q E h => ?_) (fun cdv A outer s H vs Q E hr hG h => ?_)
  · obtain ⟨b, s', D, rfl, _⟩ := h
    rfl
  · obtain ⟨b, s', D, rfl, ⟨dx, hb⟩, hs, hd, q⟩ := h
    have hu := hu_of hr
    refine ⟨_, (pss_one (ps_ret (pe_callB (call_sortedDI rfl) (by rfl) B.n_sorted (by decide +kernel) (pa_cons (pe_fld (pv 0) rfl) pa_nil)))), ?_⟩
    refine ⟨_, rfl, b, _, _, _, _, rfl, hb, MC.oc.cls, MC.ns, rfl, s', _, D.map (·.1), rfl, .inl hs, by unfold enV; simp, by rw [List.length_map]; exact hd, fun ys p a b c => q ys p a b c⟩
end
end K14

set_option maxRecDepth 100000
set_option maxHeartbeats 4000000
namespace K14
open PySem PySem.Spec L2 Rm
open PyProof.Rows hiding St
section
variable {P : Program} {w : World} {K : PySem.W.Frag} {mg : Str → Option Value} {base : Heap}
/-- n is the least number from 1 on that D has not -/
def Least (D : List (Int × V)) (n : Int) : Prop := 1 ≤ n ∧ n ≤ (D.length : Int) + 1 ∧ valD D n = none ∧ ∀ m, 1 ≤ m → m < n → (valD D m).isSome = true
def spWrite (K : PySem.W.Frag) (C : Addr) : Sp := fun vs H Q _ => ∃ (b s l : Addr) (D : List (Int × V)) (n : Int) (xs : List V), vs = [.ref b, .ref l] ∧ IsB C H b s ∧ H s = some (.dK (enV D)) ∧ Least D n ∧ D.length < 100 ∧ (SqL K H l xs ∨ SqT K H l xs) ∧
  ∀ t H', H' s = some (.dK (enV (D ++ [(n, .ref t)]))) → SqT K H' t xs → (∀ b u, H b = some u → b ≠ s → H' b = some u) → Q (.int n) H'
theorem sc_SetBook_write : FnScope ["self", "members", "number"] ["self", "members"] (defScope s_SetBook_write) :=
  ⟨rfl, rfl, rfl, by decide +kernel, rfl, by decide +kernel, by decide +kernel⟩
theorem ok_write {f CM : Addr} {fd : FuncData} (F : Fun K "write" "SetBook.write" s_SetBook_write f fd) (MC : BkC K CM)
    (M_SetBook_put : Cm P w K mg base CX0 1 CM "put" ["self", "number", "members"] (spPut K CM)) :
    FnG P w K mg base CX0 2 f fd ["self", "members"] (spWrite K CM) := by
  refine fn_q F sc_SetBook_write (fun vs H Q E h => ?_) (fun cdv A outer s H vs Q E hr hG h => ?_)
  · obtain ⟨b, s', l, D, n, xs, rfl, _⟩ := h
    rfl
  · obtain ⟨b, s', l, D, n, xs, rfl, ⟨dx, hb⟩, hs, ⟨n1, n2, nn, nb⟩, hd, hl, q⟩ := h
    have hu := hu_of hr
    refine ⟨_, (pss_cons (ps_set (i := 2) sc_SetBook_write.nd rfl (Or.inl rfl) pe_int)
      (pss_cons (ps_while PassesOwn.never (pt_cmp (pc_din hu (pv 2) (pe_fld (pv 0) rfl))) (pss_one (ps_aug (i := 2) sc_SetBook_write.nd rfl (Or.inl rfl) pe_int ip_add)))
      (pss_cons (ps_expr (pe_cm M_SetBook_put (hr.mono (by decide)) hG (pv 0) (pa_cons (pv 2) (pa_cons (pv 1) pa_nil)) pass0))
      (pss_one (ps_ret (pv 2)))))), ?_⟩
    refine ⟨fun m σ H' => H' = H ∧ ∃ k : Int, σ = [some (.ref b), some (.ref l), some (.int k)] ∧ 1 ≤ k ∧ k ≤ n ∧ m = (n - k).toNat, ⟨(n - 1).toNat, rfl, 1, rfl, by omega, n1, rfl⟩, ?_⟩
    rintro m σ H' ⟨rfl, k, rfl, k1, kn, rfl⟩
    refine ⟨_, rfl, _, rfl, b, _, _, _, _, rfl, hb, MC.oc.cls, MC.ns, rfl, s', _, rfl, .inl ⟨_, Sum.inl k, .inl hs, rfl, rfl⟩, _, rfl, ?_⟩
    rw [en_val]
    by_cases c : k < n
    · rw [nb k k1 c]
      refine ⟨fun σ' H'' => H'' = H' ∧ σ' = [some (.ref b), some (.ref l), some (.int (k + 1))], fun σ' H'' e => ⟨(n - (k + 1)).toNat, by omega, e.1, k + 1, e.2, by omega, by omega, rfl⟩, ?_⟩
      exact ⟨_, rfl, _, _, rfl, rfl, rfl, rfl⟩
    · obtain rfl : k = n := by omega
      rw [nn]
      refine ⟨_, rfl, b, dx, _, rfl, hb, rfl, _, rfl, _, rfl, b, s', l, D, k, xs, rfl, ⟨dx, hb⟩, hs, nn, hd, hl, fun t H2 h1 h2 h3 => ⟨_, rfl, q t H2 h1 h2 h3⟩⟩
/-- one of a new list -/
theorem one_of {t p : Addr} {H H1 : Hp} {xs : List V} {Q : VK} {E : XK} (N : Nxt t H H1) (np : H1 p = none) (h1 : 1 ≤ xs.length) (h2 : xs.length ≤ 1000) (k : ∀ v ∈ xs, ∀ H', Nxt t H H' → Q v H') :
    spOne K [.ref t, .ref p] (upd H1 p (.lst xs)) Q E := by
  obtain ⟨kp, o, ht, ho⟩ := N
  have M := new_at (.lst xs) np ht
  exact ⟨t, p, o, xs, rfl, M.th, ho, .inl (.inl upd_same), h1, by omega, fun i v o' hv ho' => k v (List.mem_of_getElem? hv) _ ⟨fun b u hb ne => (upd_ne ne).trans (M.s _ _ (kp b u hb ne)), o', upd_same, ho'⟩⟩
def MEMB : List (List PyData) := [[.int 1, .str "locks", .str "hold"], [.int 2, .str "locks", .str "keep"], [.int 3, .str "changes", .str "change"], [.int 1000000, .str "locks", .str "replace"]]
/-- a drawn list of members -/
def MemL (ds : List PyData) : Prop := ds.length ≤ 40 ∧ ∀ d ∈ ds, ∃ m ∈ MEMB, d = .tuple m
def spList (K : PySem.W.Frag) : Sp := fun vs H Q _ => ∃ t o, vs = [.ref t] ∧ H t = some o ∧ IsTape o ∧ ∀ l xs ds H', H l = none → H' l = some (.lst xs) → DxAll K H' xs ds → MemL ds → Nxt t H H' → Q (.ref l) H'
theorem sc__law_list : FnScope ["_law_tape_here", "_law_some", "_law_many", "_law_turn"] ["_law_tape_here"] (defScope s__law_list) :=
  ⟨rfl, rfl, rfl, by decide +kernel, rfl, by decide +kernel, by decide +kernel⟩
theorem ok_list {f : Addr} {fd : FuncData} (F : Fun K "_law_list" "_law_list" s__law_list f fd) (B : Bl mg)
    (D__law_one_of : Ce P w K mg base CX0 2 "_law_one_of" ["_law_tape_here", "_law_items"] (spOne K)) :
    FnG P w K mg base CX0 3 f fd ["_law_tape_here"] (spList K) := by
  refine fn_q F sc__law_list (fun vs H Q E h => ?_) (fun cdv A outer s H vs Q E hr hG h => ?_)
  · obtain ⟨t, o, rfl, _⟩ := h
    rfl
  · obtain ⟨t, o, rfl, ht, ho, q⟩ := h
    have hu := hu_of hr
    refine ⟨_, (pss_cons (ps_set (i := 1) sc__law_list.nd rfl (Or.inr rfl) (pe_lst (pa_cons (pe_tup (pa_cons pe_int (pa_cons pe_str (pa_cons pe_str pa_nil)))) (pa_cons (pe_tup (pa_cons pe_int (pa_cons pe_str (pa_cons pe_str pa_nil)))) (pa_cons (pe_tup (pa_cons pe_int (pa_cons pe_str (pa_cons pe_str pa_nil)))) (pa_cons (pe_tup (pa_cons (pe_op op_powX pe_int pe_int) (pa_cons pe_str (pa_cons pe_str pa_nil)))) pa_nil))))))
      (pss_cons (ps_set (i := 2) sc__law_list.nd rfl (Or.inl rfl) (pe_ce D__law_one_of (hr.mono (by decide)) hG (pa_cons (pv 0) (pa_cons (pe_lst (pa_cons pe_int (pa_cons pe_int (pa_cons pe_int (pa_cons pe_int (pa_cons pe_int (pa_cons pe_int pa_nil))))))) pa_nil)) pass0))
      (pss_one (ps_ret (pe_lc (own := [("_law_turn", 3)]) (by rfl) sc__law_list.nd (pi_range1 (by rfl) B.n_range (pa_cons (pv 2) pa_nil)) (blkOk_by (own := [("_law_turn", 3)]) (N := ["_law_tape_here", "_law_some", "_law_many", "_law_turn"]) (sc := defScope s__law_list) (by decide +kernel))
        (fun _ _ _ _ _ => (pg_name (i := 3) sc__law_list.nd rfl (Or.inl rfl))) (fun _ _ _ _ _ => pts_nil) (fun _ _ _ _ _ => (pe_ce D__law_one_of (hr.mono (by decide)) hG (pa_cons (pv 0) (pa_cons (pv 1) pa_nil)) pass0))))))), ?_⟩
    have lz : ∀ {n : Nat}, n ≤ 100 → n ≤ sizeLine := fun h => Nat.le_trans h (by decide)
    have p6 : CPowX 10 6 := pow32 (by decide) (by decide) (by decide) (by decide)
    have N0 : Nxt t H H := ⟨fun b u h _ => h, o, ht, ho⟩
    refine ⟨lz (n := 3) (by decide), fun p1 n1 => ?_⟩
    have N1 := N0.go (same_new (o := .tup [V.int 1, .str "locks", .str "hold"]) n1)
    have h1 := upd_same (H := H) (a := p1) (o := .tup [V.int 1, .str "locks", .str "hold"])
    generalize upd H p1 (.tup [V.int 1, .str "locks", .str "hold"]) = H1 at N1 h1 ⊢
    refine ⟨lz (n := 3) (by decide), fun p2 n2 => ?_⟩
    have s2 := same_new (o := .tup [V.int 2, .str "locks", .str "keep"]) n2
    have h2 := upd_same (H := H1) (a := p2) (o := .tup [V.int 2, .str "locks", .str "keep"])
    generalize upd H1 p2 (.tup [V.int 2, .str "locks", .str "keep"]) = H2 at s2 h2 ⊢
    refine ⟨lz (n := 3) (by decide), fun p3 n3 => ?_⟩
    have s3 := same_new (o := .tup [V.int 3, .str "changes", .str "change"]) n3
    have h3 := upd_same (H := H2) (a := p3) (o := .tup [V.int 3, .str "changes", .str "change"])
    generalize upd H2 p3 (.tup [V.int 3, .str "changes", .str "change"]) = H3 at s3 h3 ⊢
    refine ⟨_, _, rfl, rfl, p6, lz (n := 3) (by decide), fun p4 n4 => ?_⟩
    have s4 := same_new (o := .tup [V.int (10 ^ (6 : Int).toNat), .str "locks", .str "replace"]) n4
    have h4 := upd_same (H := H3) (a := p4) (o := .tup [V.int (10 ^ (6 : Int).toNat), .str "locks", .str "replace"])
    generalize upd H3 p4 (.tup [V.int (10 ^ (6 : Int).toNat), .str "locks", .str "replace"]) = H4 at s4 h4 ⊢
    refine ⟨lz (n := 4) (by decide), fun pm nm => ?_⟩
    have s5 := same_new (o := .lst [V.ref p1, .ref p2, .ref p3, .ref p4]) nm
    have hm := upd_same (H := H4) (a := pm) (o := .lst [V.ref p1, .ref p2, .ref p3, .ref p4])
    generalize upd H4 pm (.lst [V.ref p1, .ref p2, .ref p3, .ref p4]) = H5 at s5 hm ⊢
    have N5 := N1.go (((s2.trans s3).trans s4).trans s5)
    have e6 : (10 : Int) ^ (6 : Int).toNat = 1000000 := by decide
    rw [e6] at h4
    have tup : ∀ {p : Addr} {i : Int} {x y : Str}, H5 p = some (.tup [V.int i, .str x, .str y]) → Dx K H5 (.ref p) (.tuple [.int i, .str x, .str y]) := fun h => .tup (.inl (.inl h)) (.cons (.int _) (.cons (.str _) (.cons (.str _) .nil)))
    have hd : ∀ v ∈ [V.ref p1, .ref p2, .ref p3, .ref p4], ∃ m ∈ MEMB, Dx K H5 v (.tuple m) := fun v hv => by
      simp only [List.mem_cons, List.not_mem_nil, or_false] at hv
      rcases hv with rfl | rfl | rfl | rfl
      · exact ⟨_, .head _, tup (s5 _ _ (s4 _ _ (s3 _ _ (s2 _ _ h1))))⟩
      · exact ⟨_, .tail _ (.head _), tup (s5 _ _ (s4 _ _ (s3 _ _ h2)))⟩
      · exact ⟨_, .tail _ (.tail _ (.head _)), tup (s5 _ _ (s4 _ _ h3))⟩
      · exact ⟨_, .tail _ (.tail _ (.tail _ (.head _))), tup (s5 _ _ h4)⟩
    clear h1 h2 h3 h4 s2 s3 s4 s5 N1 tup n1 n2 n3 n4 nm
    refine ⟨_, rfl, lz (n := 6) (by decide), fun pw nw => one_of (E := E0) (⟨fun b u h _ => h, N5.tape⟩ : Nxt t H5 H5) nw (show 1 ≤ 6 by decide) (show 6 ≤ 1000 by decide) fun w m H6 N6 => ?_⟩
    obtain ⟨n, n0, n40, rfl⟩ : ∃ n : Int, 0 ≤ n ∧ n ≤ 40 ∧ w = .int n := by
      simp only [List.mem_cons, List.not_mem_nil, or_false] at m
      rcases m with rfl | rfl | rfl | rfl | rfl | rfl
      · exact ⟨0, by decide, by decide, rfl⟩
      · exact ⟨1, by decide, by decide, rfl⟩
      · exact ⟨2, by decide, by decide, rfl⟩
      · exact ⟨3, by decide, by decide, rfl⟩
      · exact ⟨4, by decide, by decide, rfl⟩
      · exact ⟨40, by decide, by decide, rfl⟩
    obtain ⟨o5, ht5, ho5⟩ := id N5.tape
    have pt : pm ≠ t := fun e => by
      obtain ⟨_, _, rfl, _⟩ := ho5
      rw [e, ht5] at hm
      cases hm
    have hm6 := N6.keep _ _ hm pt
    have k56 := TupK.nxt ht5 ho5 N6
    obtain ⟨o6, ht6, ho6⟩ := id N6.tape
    have tO4 : ∀ m ∈ MEMB, tO (.tuple m) = true := by decide +kernel
    have hd6 : ∀ v ∈ [V.ref p1, .ref p2, .ref p3, .ref p4], ∃ m ∈ MEMB, Dx K H6 v (.tuple m) := fun v hv => by
      obtain ⟨m, mm, h⟩ := hd v hv
      exact ⟨m, mm, dx_keepT k56 (tO4 m mm) h⟩
    have N56 : Nxt t H H6 := N5.trans N6
    clear hd k56 N6 N5 hm ht5 ho5
    refine ⟨_, rfl, n, rfl, by omega, by omega, fun D nD => ?_⟩
    have tD : D ≠ t := fun e => by rw [e, ht6] at nD; cases nD
    have hD0 : H D = none := by
      cases e : H D with
      | none => rfl
      | some u => rw [N56.keep _ _ e tD] at nD; cases nD
    refine Rm.lc_range (fun k H' => (∃ o', H' t = some o' ∧ IsTape o') ∧ (∀ b u, H6 b = some u → b ≠ t → H' b = some u) ∧ ∃ xs ds, H' D = some (.lst xs) ∧ DxAll K H6 xs ds ∧ ds.length = k ∧ ∀ d ∈ ds, ∃ m ∈ MEMB, d = .tuple m)
      ⟨⟨o6, (upd_ne (Ne.symm tD)).trans ht6, ho6⟩, fun b u hb ne => (upd_ne fun e => by rw [e, nD] at hb; cases hb).trans hb, [], [], upd_same, .nil, rfl, fun _ h => by cases h⟩ ?_ ?_
    · rintro k H' hk ⟨⟨o', ht', ho'⟩, fr, xs, ds, hD, hx, ld, hds⟩
      refine ⟨rfl, _, rfl, _, rfl, t, pm, o', _, rfl, ht', ho', .inl (.inl (fr _ _ hm6 pt)), (show 1 ≤ 4 by decide), (show 4 ≤ 1000000 by decide), fun i v o2 hv ho2 => ?_⟩
      obtain ⟨m, mm, hvm⟩ := hd6 v (List.mem_of_getElem? hv)
      have lx := dxa_len hx
      refine ⟨_, (upd_ne tD).trans hD, by rw [lx, ld]; exact Nat.lt_of_lt_of_le (show k < 41 by omega) (by decide), ⟨o2, (upd_ne (Ne.symm tD)).trans upd_same, ho2⟩, fun b u hb ne => (upd_ne fun e => by rw [e, nD] at hb; cases hb).trans ((upd_ne ne).trans (fr b u hb ne)), xs ++ [v], ds ++ [.tuple m], upd_same, dxa_snoc hx hvm, by rw [List.length_append, ld]; rfl, fun d hd => ?_⟩
      rcases List.mem_append.mp hd with h | h
      · exact hds d h
      · exact ⟨m, mm, List.mem_singleton.mp h⟩
    · rintro H' ⟨⟨o', ht', ho'⟩, fr, xs, ds, hD, hx, ld, hds⟩
      have kk : TupK H6 H' := TupK.nxt ht6 ho6 ⟨fr, o', ht', ho'⟩
      refine q D xs ds H' hD0 hD (dxa_keepT kk (tOA_of fun d hd => ?_) hx) ⟨by omega, hds⟩ ⟨fun b u hb ne => fr b u (N56.keep b u hb ne) ne, o', ht', ho'⟩
      obtain ⟨m, mm, rfl⟩ := hds d hd
      exact tO4 m mm
end
end K14

set_option maxRecDepth 100000
set_option maxHeartbeats 4000000
namespace K14
open PySem PySem.Spec L2 Rm
open PyProof.Rows hiding St
section
variable {P : Program} {w : World} {K : PySem.W.Frag} {mg : Str → Option Value} {base : Heap}
/-! ### the sets that a book tells -/
def valL (L : List (Int × PyData)) (n : Int) : Option PyData := (L.find? fun e => decide (e.1 = n)).map (·.2)
def dropL (L : List (Int × PyData)) (n : Int) : List (Int × PyData) := L.filter fun e => decide (e.1 ≠ n)
/-- D holds what L says -/
inductive Rel (K : PySem.W.Frag) (H : Hp) : List (Int × V) → List (Int × PyData) → Prop
  | nil : Rel K H [] []
  | cons {n : Int} {v : V} {d : PyData} {D : List (Int × V)} {L : List (Int × PyData)} : Dx K H v d → Rel K H D L → Rel K H ((n, v) :: D) ((n, d) :: L)
theorem Rel.keys {H : Hp} : ∀ {D : List (Int × V)} {L : List (Int × PyData)}, Rel K H D L → D.map (·.1) = L.map (·.1)
  | _, _, .nil => rfl
  | _, _, .cons _ r => by rw [List.map_cons, List.map_cons, r.keys]
theorem Rel.len {H : Hp} {D : List (Int × V)} {L : List (Int × PyData)} (r : Rel K H D L) : D.length = L.length := by
  have := congrArg List.length r.keys
  simpa using this
theorem Rel.val {H : Hp} {n : Int} : ∀ {D : List (Int × V)} {L : List (Int × PyData)}, Rel K H D L → (valD D n = none ∧ valL L n = none) ∨ ∃ v d, valD D n = some v ∧ valL L n = some d ∧ Dx K H v d
  | _, _, .nil => .inl ⟨rfl, rfl⟩
  | _, _, .cons (n := m) (v := v) (d := d) h r => by
    by_cases e : m = n
    · exact .inr ⟨v, d, by simp [valD, e], by simp [valL, e], h⟩
    · rcases r.val (n := n) with ⟨a, b⟩ | ⟨x, y, a, b, c⟩
      · exact .inl ⟨by simpa [valD, e] using a, by simpa [valL, e] using b⟩
      · exact .inr ⟨x, y, by simpa [valD, e] using a, by simpa [valL, e] using b, c⟩
theorem Rel.drop {H : Hp} {n : Int} : ∀ {D : List (Int × V)} {L : List (Int × PyData)}, Rel K H D L → Rel K H (dropD D n) (dropL L n)
  | _, _, .nil => .nil
  | _, _, .cons (n := m) h r => by
    by_cases e : m = n
    · simpa [dropD, dropL, e] using r.drop (n := n)
    · simpa [dropD, dropL, e] using Rel.cons h (r.drop (n := n))
theorem Rel.snoc {H : Hp} {n : Int} {v : V} {d : PyData} (h : Dx K H v d) : ∀ {D : List (Int × V)} {L : List (Int × PyData)}, Rel K H D L → Rel K H (D ++ [(n, v)]) (L ++ [(n, d)])
  | _, _, .nil => .cons h .nil
  | _, _, .cons h' r => .cons h' (r.snoc h)
theorem Rel.up {H H' : Hp} (f : ∀ v d, tO d = true → Dx K H v d → Dx K H' v d) : ∀ {D : List (Int × V)} {L : List (Int × PyData)}, (∀ e ∈ L, tO e.2 = true) → Rel K H D L → Rel K H' D L
  | _, _, _, .nil => .nil
  | _, _, t, .cons h r => .cons (f _ _ (t _ (.head _)) h) (r.up f fun e he => t e (.tail _ he))
theorem Rel.has {H : Hp} {D E : List (Int × V)} {L : List (Int × PyData)} (r : Rel K H D L) (r' : Rel K H E L) (d : PyData) : hasD D d = hasD E d := by
  cases d with
  | int i =>
    show (valD D i).isSome = (valD E i).isSome
    rcases r.val (n := i) with ⟨a, b⟩ | ⟨x, y, a, b, c⟩
    · rcases r'.val (n := i) with ⟨a', b'⟩ | ⟨x', y', a', b', c'⟩
      · rw [a, a']
      · rw [b] at b'; cases b'
    · rcases r'.val (n := i) with ⟨a', b'⟩ | ⟨x', y', a', b', c'⟩
      · rw [b] at b'; cases b'
      · rw [a, a']; rfl
  | _ => rfl
def gotL (L : List (Int × PyData)) (d : PyData) : PyData := match d with
  | .int i => match valL L i with
    | some t => .list [.str "told", t]
    | none => .list [.str "unknown", d]
  | _ => .list [.str "unknown", d]
def spThere (K : PySem.W.Frag) : Sp := fun vs H Q _ => ∃ o D x d, vs = [.ref o, x] ∧ H o = some (.dK (enV D)) ∧ Dx K H x d ∧ Q (.bl (hasD D d)) H
theorem sc__law_is_there : FnScope ["_law_own", "_law_value"] ["_law_own", "_law_value"] (defScope s__law_is_there) :=
  ⟨rfl, rfl, rfl, by decide +kernel, rfl, by decide +kernel, by decide +kernel⟩
theorem ok_there {f : Addr} {fd : FuncData} (F : Fun K "_law_is_there" "_law_is_there" s__law_is_there f fd) (B : Bl mg) :
    FnG P w K mg base CX0 1 f fd ["_law_own", "_law_value"] (spThere K) := by
  refine fn_q F sc__law_is_there (fun vs H Q E h => ?_) (fun cdv A outer s H vs Q E hr hG h => ?_)
  · obtain ⟨o, D, x, d, rfl, _⟩ := h
    rfl
  · obtain ⟨o, D, x, d, rfl, ho, hx, q⟩ := h
    have hu := hu_of hr
    refine ⟨_, (pss_one (ps_ret (pe_and (pe_callB call_isi (by rfl) B.n_isinstance (by decide +kernel) (pa_cons (pv 1) (pa_cons (pe_bltn (v := .ty "int") (u := .type "int") (by rfl) B.n_int (by decide +kernel) rfl) pa_nil))) (pe_and (pe_not (pe_callB call_isi (by rfl) B.n_isinstance (by decide +kernel) (pa_cons (pv 1) (pa_cons (pe_bltn (v := .ty "bool") (u := .type "bool") (by rfl) B.n_bool (by decide +kernel) rfl) pa_nil)))) (pe_one (pe_cmp (pc_din hu (pv 1) (pv 0)) rfl)))))), ?_⟩
    refine ⟨x, rfl, x, .ty "int", _, _, _, rfl, .ty _, hx.tyx, kit_kd (T := "int") (by simp) d, ?_⟩
    cases d with
    | bool b => exact ⟨true, rfl, x, rfl, x, .ty "bool", _, _, _, rfl, .ty _, hx.tyx, kit_kd (T := "bool") (by simp) _, true, rfl, false, rfl, q⟩
    | int i =>
      cases hx
      refine ⟨true, rfl, _, rfl, _, .ty "bool", _, _, _, rfl, .ty _, (Dx.int (K := K) (H := H) i).tyx, kit_kd (T := "bool") (by simp) _, false, rfl, true, rfl, _, rfl, _, rfl, o, _, rfl, .inl ⟨_, Sum.inl i, .inl ho, rfl, rfl⟩, ?_⟩
      rw [en_val]
      exact q
    | _ => exact ⟨false, rfl, q⟩
def spGot (K : PySem.W.Frag) (C : Addr) : Sp := fun vs H Q _ => ∃ b s D L x d, vs = [.ref b, x] ∧ IsB C H b s ∧ H s = some (.dK (enV D)) ∧ Rel K H D L ∧ Dx K H x d ∧ ∀ p H', Same H H' → Dx K H' (.ref p) (gotL L d) → Q (.ref p) H'
theorem dx_two {H : Hp} {p : Addr} {z : Str} {v : V} {d : PyData} (h : H p = some (.lst [.str z, v])) (hv : Dx K H v d) : Dx K H (.ref p) (.list [.str z, d]) := .lst (.inl (.inl h)) (.cons (.str _) (.cons hv .nil))
theorem sc__law_got : FnScope ["_law_book", "_law_nth", "e"] ["_law_book", "_law_nth"] (defScope s__law_got) :=
  ⟨rfl, rfl, rfl, by decide +kernel, rfl, by decide +kernel, by decide +kernel⟩
theorem ok_got {f UC CM : Addr} {fd : FuncData} (F : Fun K "_law_got" "_law_got" s__law_got f fd) (g_UnknownSet : mg "UnknownSet" = some (.ref UC))
    (GET_SetBook : OwnM P w K mg base (L2.CX P w) 6 CM "__getitem__" ["self", "number"] (spGetX K CM UC))
    (XF_UnknownSet : XfC K UC) (no_UnknownSet_value : PySem.W.findIn K (.ref UC) "value" = some none) (em : PySem.W.exmOne K (.ref UC) (.ref UC) = some true) :
    FnG P w K mg base CX0 8 f fd ["_law_book", "_law_nth"] (spGot K CM) := by
  refine fn_q F sc__law_got (fun vs H Q E h => ?_) (fun cdv A outer s H vs Q E hr hG h => ?_)
  · obtain ⟨b, s', D, L, x, d, rfl, _⟩ := h
    rfl
  · obtain ⟨b, s', D, L, x, d, rfl, hb, hs, rel, hx, q⟩ := h
    have N_UnknownSet : Names (cxOf CX0 P w K mg base ["_law_book", "_law_nth", "e"] "_law_got" (defScope s__law_got) f cdv A outer s H E).nox "UnknownSet" (.ref UC) :=
      ⟨rfl, by decide, .inl g_UnknownSet⟩
    refine ⟨_, (pss_one (ps_try_as (i := 2) rfl rfl sc__law_got.nd rfl rfl N_UnknownSet takes0 (fun W pn xe tk po => (pss_one (ps_ret (pe_lst (pa_cons pe_str (pa_cons (pe_ixOwn GET_SetBook (hr.mono (by decide)) hG (fun σ => passAt tk σ) (pv 0) (pv 1)) pa_nil))))))
      (fun a oe cls d pn hz hf => (pss_one (ps_ret (pe_lst (pa_cons pe_str (pa_cons (pe_xf XF_UnknownSet no_UnknownSet_value hz hf (pv 2)) pa_nil)))))))), ?_⟩
    obtain ⟨dx, hb'⟩ := id hb
    refine ⟨_, rfl, _, rfl, b, dx, _, rfl, hb', b, s', D, x, d, rfl, hb, hs, hx, fun i v e hv => ?_, fun hn e he => ?_⟩
    · subst e
      refine ⟨(show 2 ≤ sizeLine by decide), fun p np => q p _ (same_new np) ?_⟩
      rcases rel.val (n := i) with ⟨a, b'⟩ | ⟨x', y, a, b', c⟩
      · rw [a] at hv; cases hv
      · rw [a] at hv
        cases hv
        have e : gotL L (.int i) = .list [.str "told", y] := by simp [gotL, b']
        rw [e]
        exact dx_two upd_same (c.upR (.of (same_new np)))
    · refine ⟨true, em, fun _ a na => ?_, fun z => by cases z⟩
      refine ⟨_, rfl, rfl, rfl, e, _, x, rfl, upd_same, rfl, (show 2 ≤ sizeLine by decide), fun p np => ?_⟩
      have s1 := (same_new (o := .xd [("value", x)]) he).trans (same_new (o := .lst [.str "unknown", x]) np)
      refine q p _ s1 ?_
      have e : gotL L d = .list [.str "unknown", d] := by
        cases d with
        | int i =>
          have hn : (valD D i).isSome = false := hn
          rcases rel.val (n := i) with ⟨a, b'⟩ | ⟨x', y, a, b', c⟩
          · simp [gotL, b']
          · rw [a] at hn; cases hn
        | _ => rfl
      rw [e]
      exact dx_two upd_same (hx.upR (.of s1))
end
end K14

set_option maxRecDepth 100000
set_option maxHeartbeats 4000000
namespace K14
open PySem PySem.Spec L2 Rm
open PyProof.Rows hiding St
section
variable {P : Program} {w : World} {K : PySem.W.Frag} {mg : Str → Option Value} {base : Heap}
def spGone (K : PySem.W.Frag) (C : Addr) : Sp := fun vs H Q _ => ∃ b s D x d, vs = [.ref b, x] ∧ IsB C H b s ∧ H s = some (.dK (enV D)) ∧ Dx K H x d ∧
  (∀ i, d = .int i → (valD D i).isSome = true → ∀ p H', H' s = some (.dK (enV (dropD D i))) → H' p = some (.lst [.str "told", .non]) → (∀ b u, H b = some u → b ≠ s → H' b = some u) → Q (.ref p) H') ∧
  (hasD D d = false → ∀ p H', Same H H' → Dx K H' (.ref p) (.list [.str "unknown", d]) → Q (.ref p) H')
theorem sc__law_gone : FnScope ["_law_book", "_law_nth", "e"] ["_law_book", "_law_nth"] (defScope s__law_gone) :=
  ⟨rfl, rfl, rfl, by decide +kernel, rfl, by decide +kernel, by decide +kernel⟩
theorem ok_gone {f UC CM : Addr} {fd : FuncData} (F : Fun K "_law_gone" "_law_gone" s__law_gone f fd) (g_UnknownSet : mg "UnknownSet" = some (.ref UC))
    (M_SetBook_forget : Cm P w K mg base (L2.CX P w) 6 CM "forget" ["self", "number"] (spForX K CM UC))
    (XF_UnknownSet : XfC K UC) (no_UnknownSet_value : PySem.W.findIn K (.ref UC) "value" = some none) (em : PySem.W.exmOne K (.ref UC) (.ref UC) = some true) :
    FnG P w K mg base CX0 8 f fd ["_law_book", "_law_nth"] (spGone K CM) := by
  refine fn_q F sc__law_gone (fun vs H Q E h => ?_) (fun cdv A outer s H vs Q E hr hG h => ?_)
  · obtain ⟨b, s', D, x, d, rfl, _⟩ := h
    rfl
  · obtain ⟨b, s', D, x, d, rfl, hb, hs, hx, q, e⟩ := h
    have N_UnknownSet : Names (cxOf CX0 P w K mg base ["_law_book", "_law_nth", "e"] "_law_gone" (defScope s__law_gone) f cdv A outer s H E).nox "UnknownSet" (.ref UC) :=
      ⟨rfl, by decide, .inl g_UnknownSet⟩
    refine ⟨_, (pss_one (ps_try_as (i := 2) rfl rfl sc__law_gone.nd rfl rfl N_UnknownSet takes0 (fun W pn xe tk po => (pss_one (ps_ret (pe_lst (pa_cons pe_str (pa_cons (pe_cmE M_SetBook_forget (hr.mono (by decide)) hG (pv 0) (pa_cons (pv 1) pa_nil) (fun σ => passAt tk σ)) pa_nil))))))
      (fun a oe cls d pn hz hf => (pss_one (ps_ret (pe_lst (pa_cons pe_str (pa_cons (pe_xf XF_UnknownSet no_UnknownSet_value hz hf (pv 2)) pa_nil)))))))), ?_⟩
    obtain ⟨dx, hb'⟩ := id hb
    refine ⟨_, rfl, b, dx, _, rfl, hb', rfl, _, rfl, b, s', D, x, d, rfl, hb, hs, hx, fun i ei hv => ?_, fun hn e' he => ?_⟩
    · refine ⟨(show 2 ≤ sizeLine by decide), fun p np => ?_⟩
      have ps : p ≠ s' := fun e => by rw [e, upd_same] at np; cases np
      refine q i ei hv p _ ((upd_ne (Ne.symm ps)).trans upd_same) upd_same fun b u hb ne => ?_
      refine (upd_ne fun e => ?_).trans ((upd_ne ne).trans hb)
      rw [← e, upd_ne ne, hb] at np
      cases np
    · refine ⟨true, em, fun _ a na => ?_, fun z => by cases z⟩
      refine ⟨_, rfl, rfl, rfl, e', _, x, rfl, upd_same, rfl, (show 2 ≤ sizeLine by decide), fun p np => ?_⟩
      have s1 := (same_new (o := .xd [("value", x)]) he).trans (same_new (o := .lst [.str "unknown", x]) np)
      exact e hn p _ s1 (dx_two upd_same (hx.upR (.of s1)))
theorem val_drop {D : List (Int × V)} {n m : Int} (h : m ≠ n) : valD (dropD D n) m = valD D m := by
  induction D with
  | nil => rfl
  | cons e D ih =>
    obtain ⟨k, v⟩ := e
    by_cases c : k = n
    · have : k ≠ m := fun e => h (e.symm.trans c)
      simpa [valD, dropD, c, this, Ne.symm h] using ih
    · by_cases c2 : k = m
      · simp [valD, dropD, c, c2, h]
      · simpa [valD, dropD, c, c2] using ih
theorem drop_lt {D : List (Int × V)} {n : Int} (h : (valD D n).isSome = true) : (dropD D n).length < D.length := by
  induction D with
  | nil => cases h
  | cons e D ih =>
    obtain ⟨k, v⟩ := e
    by_cases c : k = n
    · rw [show dropD ((k, v) :: D) n = dropD D n by simp [dropD, c], List.length_cons]
      have : (dropD D n).length ≤ D.length := List.length_filter_le ..
      omega
    · have := ih (by simpa [valD, c] using h)
      rw [show dropD ((k, v) :: D) n = (k, v) :: dropD D n by simp [dropD, c], List.length_cons, List.length_cons]
      omega
theorem full {N : Nat} : ∀ {D : List (Int × V)}, (∀ m : Int, 1 ≤ m → m ≤ N → (valD D m).isSome = true) → N ≤ D.length := by
  induction N with
  | zero => exact fun _ => Nat.zero_le _
  | succ N ih =>
    intro D h
    have h1 := h (N + 1 : Nat) (by omega) (by omega)
    have := ih (D := dropD D ((N + 1 : Nat) : Int)) fun m a b => by
      rw [val_drop (by omega)]
      exact h m a (by omega)
    have := drop_lt h1
    omega
theorem has_least (D : List (Int × V)) : ∃ n, Least D n := by
  have go : ∀ k : Nat, k ≤ D.length → (∀ m : Int, 1 ≤ m → m ≤ k → (valD D m).isSome = true) → ∃ n, Least D n := by
    intro k hk
    induction h : D.length - k generalizing k with
    | zero =>
      intro a
      cases e : valD D ((k : Int) + 1) with
      | none => exact ⟨k + 1, by omega, by omega, e, fun m m1 m2 => a m m1 (by omega)⟩
      | some v =>
        have := full (D := D) (N := k + 1) fun m m1 m2 => by
          rcases Int.lt_or_eq_of_le (show m ≤ (k : Int) + 1 by omega) with c | c
          · exact a m m1 (by omega)
          · rw [c, e]; rfl
        omega
    | succ j ih =>
      intro a
      cases e : valD D ((k : Int) + 1) with
      | none => exact ⟨k + 1, by omega, by omega, e, fun m m1 m2 => a m m1 (by omega)⟩
      | some v =>
        refine ih (k + 1) (by omega) (by omega) fun m m1 m2 => ?_
        rcases Int.lt_or_eq_of_le (show m ≤ (k : Int) + 1 by omega) with c | c
        · exact a m m1 (by omega)
        · rw [c, e]; rfl
  exact go 0 (Nat.zero_le _) fun m a b => by omega
def spLeast : Sp := fun vs H Q _ => ∃ o D n, vs = [.ref o] ∧ H o = some (.dK (enV D)) ∧ Least D n ∧ D.length < 100 ∧ ∀ H', Same H H' → Q (.int n) H'
theorem sc__law_least : FnScope ["_law_own", "_law_one"] ["_law_own"] (defScope s__law_least) :=
  ⟨rfl, rfl, rfl, by decide +kernel, rfl, by decide +kernel, by decide +kernel⟩
theorem ok_least {f : Addr} {fd : FuncData} (F : Fun K "_law_least" "_law_least" s__law_least f fd) (B : Bl mg) :
    FnG P w K mg base CX0 1 f fd ["_law_own"] spLeast := by
  refine fn_q F sc__law_least (fun vs H Q E h => ?_) (fun cdv A outer s H vs Q E hr hG h => ?_)
  · obtain ⟨o, D, n, rfl, _⟩ := h
    rfl
  · obtain ⟨o, D, n, rfl, ho, ⟨n1, n2, nn, nb⟩, hd, q⟩ := h
    have hu := hu_of hr
    refine ⟨_, (pss_one (ps_ret (pe_ix ix_list (pe_lc (own := [("_law_one", 1)]) (by rfl) sc__law_least.nd (pi_range2 (by rfl) B.n_range (pa_cons pe_int (pa_cons (pe_op op_add (pe_callB call_lenD (by rfl) B.n_len (by decide +kernel) (pa_cons (pv 0) pa_nil)) pe_int) pa_nil))) (blkOk_by (own := [("_law_one", 1)]) (N := ["_law_own", "_law_one"]) (sc := defScope s__law_least) (by decide +kernel))
        (fun _ _ _ _ _ => (pg_name (i := 1) sc__law_least.nd rfl (Or.inl rfl))) (fun _ _ _ _ _ => (pts_one (pt_cmp (pc_dnotin hu (pv 1) (pv 0))))) (fun _ _ _ _ _ => (pv 1))) pe_int (fun _ _ => rfl)))), ?_⟩
    refine ⟨_, rfl, o, _, rfl, ho, _, _, rfl, rfl, ?_⟩
    rw [en_len]
    refine ⟨1, _, rfl, ⟨by decide, by decide, by omega, by omega⟩, fun p np => ?_⟩
    have hN : (((D.length : Nat) : Int) + 2 - 1).toNat = D.length + 1 := by omega
    rw [hN]
    refine Rm.lc_range (fun i H' => Same H H' ∧ ∃ ks : List V, H' p = some (.lst ks) ∧ ks.length ≤ i ∧ ((i : Int) < n → ks = []) ∧ (n ≤ i → ∃ r, ks = .int n :: r))
      ⟨same_new np, [], upd_same, Nat.le_refl _, fun _ => rfl, fun h => by omega⟩ ?_ ?_
    · rintro i H' hi ⟨s1, ks, hp, kl, k1, k2⟩
      refine ⟨rfl, _, rfl, _, rfl, o, _, rfl, .inl ⟨_, Sum.inl (1 + (i : Int)), .inl (s1 _ _ ho), rfl, rfl⟩, ?_⟩
      rw [en_val]
      have put : ∀ o', Same H (upd H' p o') := fun o' b u h => (upd_ne fun e => by rw [e, np] at h; cases h).trans (s1 b u h)
      rcases Int.lt_trichotomy (1 + (i : Int)) n with c | c | c
      · have e := nb _ (by omega) c
        rw [e]
        refine ⟨_, rfl, ite2 (fun c => by simp at c) fun _ => ⟨s1, ks, hp, by omega, fun _ => k1 (by omega), fun h => by omega⟩⟩
      · rw [c, nn]
        refine ⟨_, rfl, ite2 (fun _ => ?_) fun c => absurd rfl c⟩
        refine ⟨_, rfl, ks, hp, Nat.lt_of_le_of_lt (show ks.length ≤ 200 by omega) (by decide), put _, _, upd_same, by rw [List.length_append]; exact Nat.succ_le_succ kl, fun h => by omega, fun _ => ⟨[], ?_⟩⟩
        rw [k1 (by omega)]
        rfl
      · obtain ⟨r, er⟩ := k2 (by omega)
        refine ⟨_, rfl, ite2 (fun _ => ?_) fun _ => ⟨s1, ks, hp, by omega, fun h => by omega, fun _ => ⟨r, er⟩⟩⟩
        refine ⟨_, rfl, ks, hp, Nat.lt_of_le_of_lt (show ks.length ≤ 200 by omega) (by decide), put _, _, upd_same, by rw [List.length_append]; exact Nat.succ_le_succ kl, fun h => by omega, fun _ => ⟨r ++ [.int (1 + (i : Int))], by rw [er]; rfl⟩⟩
    · rintro H' ⟨s1, ks, hp, kl, k1, k2⟩
      obtain ⟨r, rfl⟩ := k2 (by omega)
      exact ⟨_, _, _, _, rfl, rfl, .inl (.inl hp), atI_nat (j := 0) rfl, q H' s1⟩
end
end K14

set_option maxRecDepth 100000
set_option maxHeartbeats 4000000
namespace K14
open PySem PySem.Spec L2 Rm
open PyProof.Rows hiding St
section
variable {P : Program} {w : World} {K : PySem.W.Frag} {mg : Str → Option Value} {base : Heap}
/-- sets of drawn members under small numbers -/
def GoodL (L : List (Int × PyData)) : Prop := L.length ≤ 20 ∧ ∀ e ∈ L, 1 ≤ e.1 ∧ e.1 ≤ 1000001 ∧ ∃ ds, e.2 = .tuple ds ∧ MemL ds
theorem sv_mem : ∀ m ∈ MEMB, Sv (.tuple m) := by
  intro m hm
  simp only [MEMB, List.mem_cons, List.not_mem_nil, or_false] at hm
  rcases hm with rfl | rfl | rfl | rfl
  · exact Sv.of (by decide +kernel)
  · exact Sv.of (by decide +kernel)
  · exact Sv.of (by decide +kernel)
  · exact Sv.of (by decide +kernel)
theorem sm_mem {ds : List PyData} (h : MemL ds) : Sm (.tuple ds) ∧ (PyData.tuple ds).depth ≤ 40 ∧ (PyData.tuple ds).weight ≤ 90000 := by
  obtain ⟨a, b, c, e⟩ := sv_dep (ds := ds) fun d hd => by
    obtain ⟨m, mm, rfl⟩ := h.2 d hd
    exact sv_mem m mm
  have l := h.1
  have w1 : (PyData.tuple ds).weight ≤ 90000 := by simp only [PyData.weight]; omega
  have w2 : (PyData.tuple ds).depth ≤ 40 := by simp only [PyData.depth]; omega
  exact ⟨⟨by simpa [PyData.showable] using a, by simpa [PyData.leavesShort] using b, by omega, by omega⟩, w2, w1⟩
theorem val_mem {L : List (Int × PyData)} {n : Int} {d : PyData} (h : valL L n = some d) : (n, d) ∈ L := by
  unfold valL at h
  cases e : L.find? fun e => decide (e.1 = n) with
  | none => rw [e] at h; cases h
  | some x =>
    rw [e] at h
    have := List.mem_of_find?_eq_some e
    have e2 := List.find?_some e
    have e2 : x.1 = n := of_decide_eq_true e2
    cases h
    rw [← e2]
    exact this
theorem sm_got {L : List (Int × PyData)} (g : GoodL L) {d : PyData} (hd : Sv d) : Sm (gotL L d) := by
  have unk : Sm (.list [.str "unknown", d]) := sm_two2 (Sv.of (by decide +kernel)) hd.sm (by have := hd.dp; omega) (by have := hd.wt; omega)
  cases d with
  | int i =>
    cases e : valL L i with
    | none =>
      have : gotL L (.int i) = .list [.str "unknown", .int i] := by simp [gotL, e]
      rw [this]
      exact unk
    | some t =>
      have : gotL L (.int i) = .list [.str "told", t] := by simp [gotL, e]
      rw [this]
      obtain ⟨_, _, ds, et, m⟩ := g.2 _ (val_mem e)
      have et : t = .tuple ds := et
      subst et
      obtain ⟨a, b, c⟩ := sm_mem m
      exact sm_two2 (Sv.of (by decide +kernel)) a b c
  | _ => exact unk
theorem dp_ints {H : Hp} : ∀ ys : List Int, DpAll K H (ys.map V.int) (ys.map .int)
  | [] => .nil
  | y :: ys => .cons (.int y) (dp_ints ys)
theorem lay_ints : ∀ ys : List Int, PyData.canLayAll0 (ys.map .int) = true ∧ PyData.depthAll (ys.map .int) ≤ 1
  | [] => by simp [PyData.canLayAll0, PyData.depthAll]
  | y :: ys => by
    obtain ⟨e1, e2⟩ := lay_ints ys
    simp only [List.map_cons, PyData.canLayAll0, PyData.canLay0, e1, PyData.depthAll, PyData.depth, Bool.and_true, true_and]
    omega
theorem sh_ints (ys : List Int) : SeqAt.shaped (.list (ys.map .int)) = true := by
  obtain ⟨e1, e2⟩ := lay_ints ys
  unfold SeqAt.shaped
  rw [Bool.and_eq_true]
  refine ⟨by simpa only [PyData.canLay0] using e1, decide_eq_true ?_⟩
  simp only [PyData.depth]
  omega
theorem eqv_ints (ys : List Int) : PyData.eqv (.list (ys.map .int)) (.list (ys.map .int)) = true := SeqAt.eqv_refl _ (by simpa only [PyData.canLay0] using (lay_ints ys).1)
theorem Rel.same {H H' : Hp} (s : Same H H') : ∀ {D : List (Int × V)} {L : List (Int × PyData)}, Rel K H D L → Rel K H' D L
  | _, _, .nil => .nil
  | _, _, .cons h r => .cons (h.upR (.of s)) (r.same s)
def spRight (K : PySem.W.Frag) (C : Addr) : Sp := fun vs H Q _ => ∃ (b s o vl : Addr) (D E : List (Int × V)) (L : List (Int × PyData)) (xs : List V) (ds : List PyData), vs = [.ref b, .ref o, .ref vl] ∧ IsB C H b s ∧ H s = some (.dK (enV D)) ∧ Rel K H D L ∧ H o = some (.dK (enV E)) ∧ Rel K H E L ∧ GoodL L ∧
  H vl = some (.lst xs) ∧ xs.length ≤ 10 ∧ DxAll K H xs ds ∧ (∀ d ∈ ds, Sv d) ∧ ∀ H', Same H H' → Q (.bl true) H'
theorem sc__law_right : FnScope ["_law_book", "_law_own", "_law_values", "_law_again", "_law_found", "_law_value", "_law_is_there_here", "_law_due"] ["_law_book", "_law_own", "_law_values"] (defScope s__law_right) :=
  ⟨rfl, rfl, rfl, by decide +kernel, rfl, by decide +kernel, by decide +kernel⟩
theorem ok_right {f CM : Addr} {fd : FuncData} (F : Fun K "_law_right" "_law_right" s__law_right f fd) (B : Bl mg)
    (IN_SetBook : OwnM P w K mg base CX0 2 CM "__contains__" ["self", "number"] (spHas K CM)) (LEN_SetBook : OwnM P w K mg base CX0 1 CM "__len__" ["self"] (spLenB CM))
    (M_SetBook_taken : Cm P w K mg base CX0 1 CM "taken" ["self"] (spTaken CM))
    (D__law_is_there : Ce P w K mg base CX0 1 "_law_is_there" ["_law_own", "_law_value"] (spThere K))
    (D__law_got : Ce P w K mg base CX0 8 "_law_got" ["_law_book", "_law_nth"] (spGot K CM)) :
    FnG P w K mg base CX0 9 f fd ["_law_book", "_law_own", "_law_values"] (spRight K CM) := by
  refine fn_q F sc__law_right (fun vs H Q E h => ?_) (fun cdv A outer s H vs Q E hr hG h => ?_)
  · obtain ⟨b, s', o, vl, D, E', L, xs, ds, rfl, _⟩ := h
    rfl
  · obtain ⟨b, s', o, vl, D, E', L, xs, ds, rfl, hb, hs, rD, ho, rE, gL, hv, xl, hx, sx, q⟩ := h
    have hu := hu_of hr
    refine ⟨_, (pss_cons (ps_for PassesOwn.never rfl (pi_range1 (by rfl) B.n_range (pa_cons pe_int pa_nil)) (pg_name (i := 3) sc__law_right.nd rfl (Or.inl rfl)) (pss_cons (ps_set (i := 4) sc__law_right.nd rfl (Or.inl rfl) (pe_cm0 M_SetBook_taken (hr.mono (by decide)) hG (pv 0) pass0))
      (pss_cons (ps_if (PW.pt (pw_or (pt_cmpR (op_neD hr.units) (pv 4) (pe_callB (call_sortedDI rfl) (by rfl) B.n_sorted (by decide +kernel) (pa_cons (pv 1) pa_nil)) (nomark _)) (pw_or1 (pt_cmpR op_ne (pe_callB (call_lenOwn LEN_SetBook (hr.mono (by decide)) hG) (by rfl) B.n_len (by decide +kernel) (pa_cons (pv 0) pa_nil)) (pe_callB call_lenD (by rfl) B.n_len (by decide +kernel) (pa_cons (pv 1) pa_nil)) (nomark _))))) (pss_one (ps_ret pe_bl)) pss_nil)
      (pss_one (ps_expr (pe_bm PySem.F.plainAttrs_list PySem.F.slot_list_append PySem.F.type_list_append mt_append (pv 4) (pa_cons pe_int pa_nil)))))))
      (pss_cons (ps_for PassesOwn.never rfl (pi_list (pe_op op_cat (pv 2) (pe_callTy (call_list_dK rfl) (by rfl) B.n_list (by decide +kernel) (pa_cons (pv 1) pa_nil)))) (pg_name (i := 5) sc__law_right.nd rfl (Or.inl rfl)) (pss_cons (ps_set (i := 6) sc__law_right.nd rfl (Or.inl rfl) (pe_ce D__law_is_there (hr.mono (by decide)) hG (pa_cons (pv 1) (pa_cons (pv 5) pa_nil)) pass0))
      (pss_cons (ps_set (i := 7) sc__law_right.nd rfl (Or.inl rfl) (pe_callB (call_rep hG hr.units) (by rfl) B.n_repr (by decide +kernel) (pa_cons (pe_ifExp (pt_val (pv 6)) (pe_lst (pa_cons pe_str (pa_cons (pe_dget hu (pv 1) (pv 5) (fun _ _ => rfl)) pa_nil))) (pe_lst (pa_cons pe_str (pa_cons (pv 5) pa_nil)))) pa_nil)))
      (pss_one (ps_if (PW.pt (pw_or (pt_cmpR op_ne (pe_callB (call_rep hG hr.units) (by rfl) B.n_repr (by decide +kernel) (pa_cons (pe_ce D__law_got (hr.mono (by decide)) hG (pa_cons (pv 0) (pa_cons (pv 5) pa_nil)) pass0) pa_nil)) (pv 7) (nomark _)) (pw_or1 (pt_cmpR op_ne (pe_callB (call_rep hG hr.units) (by rfl) B.n_repr (by decide +kernel) (pa_cons (pe_cmpR (op_ownIn IN_SetBook (hr.mono (by decide)) hG) (pv 5) (pv 0) (by rfl)) pa_nil)) (pe_callB (call_rep hG hr.units) (by rfl) B.n_repr (by decide +kernel) (pa_cons (pv 6) pa_nil)) (nomark _))))) (pss_one (ps_ret pe_bl)) pss_nil)))))
      (pss_one (ps_ret pe_bl)))), ?_⟩
    have lD : D.length ≤ 20 := by rw [rD.len]; exact gL.1
    have lE : E'.length ≤ 20 := by rw [rE.len]; exact gL.1
    let Sg (c3 c4 c5 c6 c7 : Option V) : L2.St := [some (.ref b), some (.ref o), some (.ref vl), c3, c4, c5, c6, c7]
    dsimp only
    refine Rm.seq_mid (fun σ' H' => (∃ c3 c4, σ' = Sg c3 c4 none none none) ∧ Same H H') ?_ (fun N hN => ?_)
    rotate_left
    · refine ⟨2, rfl, by decide, by decide, for_range (n := 2) (fun j σ H' => (∃ c3 c4, σ = Sg c3 c4 none none none) ∧ Same H H') ⟨⟨_, _, rfl⟩, .refl _⟩ ?_ (fun σ H' h => hN _ _ h)⟩
      rintro j σ H1 hj ⟨⟨c3, c4, rfl⟩, s1⟩
      obtain ⟨dx, hb'⟩ := id hb
      refine ⟨_, rfl, b, dx, _, rfl, s1 _ _ hb', rfl, b, s', D, rfl, ⟨dx, s1 _ _ hb'⟩, s1 _ _ hs, by omega, fun ys p py sy np => ?_⟩
      have s2 := s1.trans (same_new (o := .lst (ys.map V.int)) np)
      have hp := upd_same (H := H1) (a := p) (o := .lst (ys.map V.int))
      have hnp : H p = none := none_of s1 np
      generalize upd H1 p (.lst (ys.map V.int)) = H2 at s2 hp ⊢
      refine ⟨_, rfl, _, rfl, o, _, E'.map (·.1), rfl, .inl (s2 _ _ ho), by unfold enV; simp, by rw [List.length_map]; omega, fun zs q1 pz sz nq => ?_⟩
      have eyz : zs = ys := by
        refine List.Perm.eq_of_pairwise (le := fun a b => a ≤ b) (fun a b _ _ h1 h2 => Int.le_antisymm h1 h2) sz sy ?_
        have e : E'.map (·.1) = D.map (·.1) := by rw [rE.keys, rD.keys]
        rw [e] at pz
        exact pz.trans py.symm
      subst eyz
      have s3 := same_new (o := .lst (zs.map V.int)) nq
      have hp3 := s3 _ _ hp
      refine ⟨.list (zs.map .int), .list (zs.map .int), .lst (.inl (.inl hp3)) (dp_ints zs), .lst (.inl (.inl upd_same)) (dp_ints zs), sh_ints zs, sh_ints zs, _, rfl, ite2 (fun c => by rw [eqv_ints] at c; cases c) fun _ => ?_⟩
      have s23 := s2.trans s3
      have eDE : D.length = E'.length := by rw [rD.len, rE.len]
      refine ⟨_, rfl, b, dx, _, rfl, s23 _ _ hb', b, s', D, rfl, ⟨dx, s23 _ _ hb'⟩, s23 _ _ hs, D.length, rfl, by omega, _, rfl, o, _, rfl, s23 _ _ ho, rfl, _, rfl, ?_⟩
      rw [en_len, eDE]
      refine ite2 (fun c => by simp at c) fun _ => ?_
      have lz : zs.length ≤ 20 := by
        have := py.length_eq
        rw [List.length_map] at this
        omega
      refine ⟨_, rfl, .inl ⟨rfl, _, .inl (.inl hp3)⟩, p, _, .int 0, rfl, rfl, hp3, by rw [List.length_map]; exact Nat.lt_of_le_of_lt lz (by decide), ⟨_, _, rfl⟩, fun c u hc => (upd_ne fun e => by rw [e, hnp] at hc; cases hc).trans (s23 _ _ hc)⟩
    rintro _ H1 ⟨⟨c3, c4, rfl⟩, s1⟩
    have hel : ∀ x ∈ xs ++ (enV E').map (fun kv => kV kv.1), ∃ d, Dx K H x d ∧ Sv d := fun x hx' => by
      rcases List.mem_append.mp hx' with h | h
      · obtain ⟨i, hi⟩ := List.getElem?_of_mem h
        obtain ⟨d, hd, hxd⟩ := hx.get hi
        exact ⟨d, hxd, sx d (List.mem_of_getElem? hd)⟩
      · obtain ⟨kv, hkv, rfl⟩ := List.mem_map.mp h
        obtain ⟨e, he, rfl⟩ := List.mem_map.mp hkv
        have : e.1 ∈ L.map (·.1) := by
          rw [← rE.keys]
          exact List.mem_map.mpr ⟨e, he, rfl⟩
        obtain ⟨f', hf', e2⟩ := List.mem_map.mp this
        obtain ⟨b1, b2, _⟩ := gL.2 f' hf'
        exact ⟨.int e.1, .int e.1, Sv.int (by omega) (by omega)⟩
    have ll : (xs ++ (enV E').map (fun kv => kV kv.1)).length ≤ 30 := by
      rw [List.length_append, List.length_map, en_len]
      omega
    refine ⟨_, rfl, _, rfl, o, _, rfl, s1 _ _ ho, fun q1 n1 => ⟨vl, q1, _, _, rfl, rfl, same_new n1 _ _ (s1 _ _ hv), upd_same, ?_, fun r nr => ?_⟩⟩
    · rw [List.length_map, en_len]
      exact Nat.le_trans (show _ ≤ 30 by omega) (by decide)
    have s2 := (s1.trans (same_new (o := .lst ((enV E').map fun kv => kV kv.1)) n1)).trans (same_new (o := .lst (xs ++ (enV E').map fun kv => kV kv.1)) nr)
    have hr1 := upd_same (H := upd H1 q1 (.lst ((enV E').map fun kv => kV kv.1))) (a := r) (o := .lst (xs ++ (enV E').map fun kv => kV kv.1))
    generalize upd (upd H1 q1 (.lst ((enV E').map fun kv => kV kv.1))) r (.lst (xs ++ (enV E').map fun kv => kV kv.1)) = H2 at s2 hr1 ⊢
    generalize xs ++ (enV E').map (fun kv => kV kv.1) = ws at hel ll hr1 ⊢
    clear n1 nr s1
    refine ⟨r, rfl, ⟨_, .inl (.inl hr1)⟩, for_list (fun m σ H' => (∃ c5 c6 c7, σ = Sg c3 c4 c5 c6 c7) ∧ Same H2 H') ⟨⟨_, _, _, rfl⟩, .refl _⟩ (fun m σ H' _ e => .inl (.inl (e.2 _ _ hr1))) ?_ ?_⟩
    · rintro m x σ H3 hxm ⟨⟨c5, c6, c7, rfl⟩, s3⟩
      obtain ⟨d, hxd, sv⟩ := hel x (List.mem_of_getElem? hxm)
      have s03 := s2.trans s3
      refine ⟨_, rfl, _, rfl, o, E', x, d, rfl, s03 _ _ ho, hxd.upR (.of s03), ?_⟩
      have hh := rD.has rE d
      have sg := sm_got gL sv
      dsimp only [gName]
      refine Rm.seq_mid (fun σ' H' => σ' = Sg c3 c4 (some x) (some (.bl (hasD E' d))) (some (.str (gotL L d).shown)) ∧ Same H3 H') ?_ (fun N hN => ?_)
      rotate_left
      · refine ⟨_, rfl, ?_⟩
        cases c : hasD E' d with
        | true =>
          obtain ⟨i, v, rfl, hv'⟩ := has_is c
          have ex : x = .int i := by cases hxd; rfl
          subst ex
          obtain ⟨v2, t, a1, a2, a3⟩ : ∃ v2 t, valD E' i = some v2 ∧ valL L i = some t ∧ Dx K H v2 t := by
            rcases rE.val (n := i) with ⟨a, _⟩ | h
            · rw [a] at hv'; cases hv'
            · exact h
          rw [hv'] at a1
          cases a1
          have eg : gotL L (.int i) = .list [.str "told", t] := by simp [gotL, a2]
          refine ⟨_, rfl, _, rfl, _, rfl, o, v, rfl, .inl ⟨_, Sum.inl i, .inl (s03 _ _ ho), rfl, by rw [en_val]; exact hv'.symm⟩, (show 2 ≤ sizeLine by decide), fun p1 n1 => ⟨.ref p1, gotL L (.int i), rfl, ?_, sg, ?_⟩⟩
          · rw [eg]
            exact dx_two upd_same (a3.upR (.of (s03.trans (same_new n1))))
          · exact hN _ _ ⟨by rw [c]; rfl, same_new n1⟩
        | false =>
          have eg : gotL L d = .list [.str "unknown", d] := by
            cases d with
            | int i =>
              have c : (valD E' i).isSome = false := c
              rcases rE.val (n := i) with ⟨a, b'⟩ | ⟨x', y, a, b', _⟩
              · simp [gotL, b']
              · rw [a] at c; cases c
            | _ => rfl
          refine ⟨_, rfl, _, rfl, (show 2 ≤ sizeLine by decide), fun p1 n1 => ⟨.ref p1, gotL L d, rfl, ?_, sg, ?_⟩⟩
          · rw [eg]
            exact dx_two upd_same (hxd.upR (.of (s03.trans (same_new n1))))
          · exact hN _ _ ⟨by rw [c]; rfl, same_new n1⟩
      rintro _ H4 ⟨rfl, s4⟩
      have s04 := s03.trans s4
      obtain ⟨dx, hb'⟩ := id hb
      refine ⟨_, rfl, _, rfl, b, s', D, L, x, d, rfl, ⟨dx, s04 _ _ hb'⟩, s04 _ _ hs, rD.same s04, hxd.upR (.of s04), fun p2 H5 s5 hx5 => ⟨.ref p2, _, rfl, hx5, sg, _, rfl, rfl, _, rfl, ite2 (fun c => by simp at c) fun _ => ?_⟩⟩
      have s05 := s04.trans s5
      have smb : ∀ b : Bool, Sm (.bool b) := fun b => by cases b <;> exact (Sv.of (by decide +kernel)).sm
      refine ⟨_, rfl, _, rfl, b, dx, _, rfl, s05 _ _ hb', b, s', D, x, d, rfl, ⟨dx, s05 _ _ hb'⟩, s05 _ _ hs, hxd.upR (.of s05), _, rfl, ?_⟩
      rw [Bool.false_xor, hh]
      refine ⟨_, _, rfl, .bl _, smb _, _, rfl, _, _, rfl, .bl _, smb _, rfl, _, rfl, ite2 (fun c => by simp at c) fun _ => ?_⟩
      exact ⟨⟨_, _, _, rfl⟩, (s3.trans s4).trans s5⟩
    · rintro σ H3 ⟨⟨c5, c6, c7, rfl⟩, s3⟩
      exact q _ (s2.trans s3)
end
end K14

set_option maxRecDepth 100000
set_option maxHeartbeats 4000000
namespace K14
open PySem PySem.Spec L2 Rm
open PyProof.Rows hiding St
section
variable {P : Program} {w : World} {K : PySem.W.Frag} {mg : Str → Option Value} {base : Heap}
theorem tO_mem {ds : List PyData} (h : MemL ds) : tO (.tuple ds) = true := by
  show tOA ds = true
  refine tOA_of fun d hd => ?_
  obtain ⟨m, mm, rfl⟩ := h.2 d hd
  have : ∀ m ∈ MEMB, tO (.tuple m) = true := by decide +kernel
  exact this m mm
theorem Rel.least {H : Hp} {D E : List (Int × V)} {L : List (Int × PyData)} (r : Rel K H D L) (r' : Rel K H E L) {n : Int} (h : Least E n) : Least D n := by
  obtain ⟨h1, h2, h3, h4⟩ := h
  have e : ∀ m, (valD D m).isSome = (valD E m).isSome := fun m => r.has r' (.int m)
  refine ⟨h1, by rw [r.len, ← r'.len]; exact h2, ?_, fun m a b => by rw [e]; exact h4 m a b⟩
  have := e n
  rw [h3] at this
  cases c : valD D n with
  | none => rfl
  | some v => rw [c] at this; cases this
/-- the frame of a step: the tape and two dicts change -/
structure Frm (t s w : Addr) (H H' : Hp) : Prop where
  k : ∀ a u, H a = some u → a ≠ t → a ≠ s → a ≠ w → H' a = some u
  tp : ∃ o, H' t = some o ∧ IsTape o
theorem tape_ne {o : HO} {D : List (Int × V)} (h : IsTape o) : o ≠ .dK (enV D) := fun e => by
  obtain ⟨dg, mx, rfl, _⟩ := h
  cases D with
  | nil => cases e
  | cons x D =>
    unfold tapeO at e
    have e := HO.dK.inj e
    have e := (List.cons.inj e).1
    have e := (Prod.mk.inj e).1
    cases e
theorem Frm.trans {t s w : Addr} {H H1 H2 : Hp} (a : Frm t s w H H1) (b : Frm t s w H1 H2) : Frm t s w H H2 := ⟨fun x u h h1 h2 h3 => b.k x u (a.k x u h h1 h2 h3) h1 h2 h3, b.tp⟩
theorem Frm.nxt {t s w : Addr} {H H1 : Hp} (n : Nxt t H H1) : Frm t s w H H1 := ⟨fun x u h h1 _ _ => n.keep x u h h1, n.tape⟩
theorem Frm.same {t s w : Addr} {H H1 H2 : Hp} (a : Frm t s w H H1) (b : Same H1 H2) : Frm t s w H H2 := ⟨fun x u h h1 h2 h3 => b _ _ (a.k x u h h1 h2 h3), let ⟨o, h, i⟩ := a.tp; ⟨o, b _ _ h, i⟩⟩
theorem Frm.tupk {t s w : Addr} {H H1 : Hp} {o : HO} {k1 k2 : List (Key × V)} (a : Frm t s w H H1) (ht : H t = some o) (ho : IsTape o) (hs : H s = some (.dK k1)) (hw : H w = some (.dK k2)) : TupK H H1 := fun b xs h => by
  obtain ⟨dg, mx, rfl, _⟩ := ho
  rcases h with h | ⟨o', h⟩
  · exact .inl (a.k b _ h (fun e => by rw [e, ht] at h; cases h) (fun e => by rw [e, hs] at h; cases h) fun e => by rw [e, hw] at h; cases h)
  · exact .inr ⟨o', a.k b _ h (fun e => by rw [e, ht] at h; cases h) (fun e => by rw [e, hs] at h; cases h) fun e => by rw [e, hw] at h; cases h⟩
theorem GoodL.tO {L : List (Int × PyData)} (g : GoodL L) : ∀ e ∈ L, tO e.2 = true := fun e he => by
  obtain ⟨_, _, ds, e2, m⟩ := g.2 e he
  rw [e2]
  exact tO_mem m
theorem Rel.keep {H H' : Hp} {D : List (Int × V)} {L : List (Int × PyData)} (r : Rel K H D L) (g : GoodL L) (k : TupK H H') : Rel K H' D L := r.up (fun v d t h => dx_keepT k t h) g.tO
theorem GoodL.snoc {L : List (Int × PyData)} (g : GoodL L) {n : Int} {ds : List PyData} (h1 : 1 ≤ n) (h2 : n ≤ 1000001) (m : MemL ds) (hl : L.length ≤ 18) : GoodL (L ++ [(n, .tuple ds)]) := by
  refine ⟨by rw [List.length_append]; show L.length + 1 ≤ 20; omega, fun e he => ?_⟩
  rcases List.mem_append.mp he with h | h
  · exact g.2 e h
  · rw [List.mem_singleton.mp h]
    exact ⟨h1, h2, ds, rfl, m⟩
theorem GoodL.drop {L : List (Int × PyData)} (g : GoodL L) (n : Int) : GoodL (dropL L n) :=
  ⟨Nat.le_trans (List.length_filter_le ..) g.1, fun e he => g.2 e (List.mem_filter.mp he).1⟩
theorem sm_list {ds : List PyData} (h : MemL ds) : Sm (.list ds) := by
  obtain ⟨a, b, c, e⟩ := sv_dep (ds := ds) fun d hd => by
    obtain ⟨m, mm, rfl⟩ := h.2 d hd
    exact sv_mem m mm
  have l := h.1
  exact ⟨by simpa [PyData.showable] using a, by simpa [PyData.leavesShort] using b, by simp only [PyData.weight]; omega, by simp only [PyData.depth]; omega⟩
/-- what was drawn: a list l of members, and the same or a tuple of it -/
structure Drw (K : PySem.W.Frag) (H : Hp) (l g : Addr) (xs : List V) (ds : List PyData) (gd : PyData) : Prop where
  hl : H l = some (.lst xs)
  x : DxAll K H xs ds
  m : MemL ds
  hg : (g = l ∧ gd = .list ds) ∨ (H g = some (.tup xs) ∧ gd = .tuple ds)
theorem Drw.dx {H : Hp} {l g : Addr} {xs : List V} {ds : List PyData} {gd : PyData} (d : Drw K H l g xs ds gd) : Dx K H (.ref g) gd ∧ Sm gd ∧ (SqL K H g xs ∨ SqT K H g xs) := by
  rcases d.hg with ⟨rfl, rfl⟩ | ⟨h, rfl⟩
  · exact ⟨.lst (.inl (.inl d.hl)) d.x, sm_list d.m, .inl (.inl (.inl d.hl))⟩
  · exact ⟨.tup (.inl (.inl h)) d.x, (sm_mem d.m).1, .inr (.inl (.inl h))⟩
theorem Drw.keep {H H' : Hp} {l g : Addr} {xs : List V} {ds : List PyData} {gd : PyData} (d : Drw K H l g xs ds gd) (k : TupK H H') (hl : H' l = some (.lst xs)) (f : ∀ xs, H g = some (.tup xs) → H' g = some (.tup xs)) : Drw K H' l g xs ds gd :=
  ⟨hl, dxa_keepT k (by have := tO_mem d.m; simpa only [tO] using this) d.x, d.m, d.hg.imp id fun h => ⟨f _ h.1, h.2⟩⟩
def spStep (K : PySem.W.Frag) (C : Addr) : Sp := fun vs H Q _ => ∃ (t b s w : Addr) (o : HO) (D E : List (Int × V)) (L : List (Int × PyData)), vs = [.ref t, .ref b, .ref w] ∧ H t = some o ∧ IsTape o ∧ IsB C H b s ∧ H s = some (.dK (enV D)) ∧ Rel K H D L ∧ H w = some (.dK (enV E)) ∧ Rel K H E L ∧ GoodL L ∧ L.length ≤ 18 ∧ s ≠ w ∧
  ∀ D' E' L' H', H' s = some (.dK (enV D')) → Rel K H' D' L' → H' w = some (.dK (enV E')) → Rel K H' E' L' → GoodL L' → L'.length ≤ L.length + 1 → Frm t s w H H' → Q (.bl true) H'
theorem sc__law_step_right : FnScope ["_law_tape_here", "_law_book", "_law_own", "_law_road", "_law_some", "_law_given", "_law_seen", "_law_nth", "_law_found", "_law_stays", "_law_pool", "_law_value", "_law_is_there_here", "_law_due", "_law_one"] ["_law_tape_here", "_law_book", "_law_own"] (defScope s__law_step_right) :=
  ⟨rfl, rfl, rfl, by decide +kernel, rfl, by decide +kernel, by decide +kernel⟩
theorem ok_step {f CM : Addr} {fd : FuncData} (F : Fun K "_law_step_right" "_law_step_right" s__law_step_right f fd) (B : Bl mg)
    (D__law_pick : Ce P w K mg base CX0 1 "_law_pick" ["_law_tape_here", "_law_many"] spPick)
    (D__law_one_of : Ce P w K mg base CX0 2 "_law_one_of" ["_law_tape_here", "_law_items"] (spOne K))
    (D__law_any : Ce P w K mg base CX0 3 "_law_any" ["_law_tape_here"] (spAnyN K))
    (D__law_list : Ce P w K mg base CX0 3 "_law_list" ["_law_tape_here"] (spList K))
    (D__law_least : Ce P w K mg base CX0 1 "_law_least" ["_law_own"] spLeast)
    (D__law_is_there : Ce P w K mg base CX0 1 "_law_is_there" ["_law_own", "_law_value"] (spThere K))
    (D__law_gone : Ce P w K mg base CX0 8 "_law_gone" ["_law_book", "_law_nth"] (spGone K CM))
    (M_SetBook_write : Cm P w K mg base CX0 2 CM "write" ["self", "members"] (spWrite K CM)) (M_SetBook_put : Cm P w K mg base CX0 1 CM "put" ["self", "number", "members"] (spPut K CM)) :
    FnG P w K mg base CX0 9 f fd ["_law_tape_here", "_law_book", "_law_own"] (spStep K CM) := by
  refine fn_q F sc__law_step_right (fun vs H Q E h => ?_) (fun cdv A outer s H vs Q E hr hG h => ?_)
  · obtain ⟨t, b, s', w', o, D, E', L, rfl, _⟩ := h
    rfl
  · obtain ⟨t, b, s', w', o, D, E', L, rfl, ht, ho, hb, hs, rD, hw, rE, gL, lL, sw, q⟩ := h
    have hu := hu_of hr
    refine ⟨_, (pss_cons (ps_par (i := 3) (j := 4) (by rfl) sc__law_step_right.nd rfl rfl (by decide) rfl rfl (pa_cons (pe_ce D__law_pick (hr.mono (by decide)) hG (pa_cons (pv 0) (pa_cons pe_int pa_nil)) pass0) (pa_cons (pe_ce D__law_list (hr.mono (by decide)) hG (pa_cons (pv 0) pa_nil) pass0) pa_nil)) (by rfl))
      (pss_cons (ps_set (i := 5) sc__law_step_right.nd rfl (Or.inl rfl) (pe_ifExp (pt_cmpR op_eq (pe_ce D__law_pick (hr.mono (by decide)) hG (pa_cons (pv 0) (pa_cons pe_int pa_nil)) pass0) pe_int (nomark _)) (pv 4) (pe_callTy call_tuple_of (by rfl) B.n_tuple (by decide +kernel) (pa_cons (pv 4) pa_nil))))
      (pss_cons (ps_set (i := 6) sc__law_step_right.nd rfl (Or.inl rfl) (pe_callB (call_rep hG hr.units) (by rfl) B.n_repr (by decide +kernel) (pa_cons (pv 5) pa_nil)))
      (pss_cons (ps_if (pt_cmpR op_lt (pv 3) pe_int (nomark _)) (pss_cons (ps_set (i := 7) sc__law_step_right.nd rfl (Or.inl rfl) (pe_ce D__law_least (hr.mono (by decide)) hG (pa_cons (pv 2) pa_nil) pass0))
      (pss_cons (ps_dput hu (pv 2) (pv 7) (pe_callTy call_tuple_of (by rfl) B.n_tuple (by decide +kernel) (pa_cons (pv 4) pa_nil)) rfl)
      (pss_cons (ps_par (i := 8) (j := 9) (by rfl) sc__law_step_right.nd rfl rfl (by decide) rfl rfl (pa_cons (pe_cm M_SetBook_write (hr.mono (by decide)) hG (pv 1) (pa_cons (pv 5) pa_nil) pass0) (pa_cons (pe_cmpR op_eq (pe_callB (call_rep hG hr.units) (by rfl) B.n_repr (by decide +kernel) (pa_cons (pv 5) pa_nil)) (pv 6) (nomark _)) pa_nil)) (by rfl))
      (pss_cons (ps_expr (pe_bm PySem.F.plainAttrs_list PySem.F.slot_list_append PySem.F.type_list_append mt_append (pv 4) (pa_cons pe_non pa_nil)))
      (pss_one (ps_ret (pe_and (pe_cmpR op_eq (pe_callB (call_rep hG hr.units) (by rfl) B.n_repr (by decide +kernel) (pa_cons (pv 8) pa_nil)) (pe_callB (call_rep hG hr.units) (by rfl) B.n_repr (by decide +kernel) (pa_cons (pv 7) pa_nil)) (nomark _)) (pe_one (pv 9))))))))) pss_nil)
      (pss_cons (ps_if (pt_cmpR op_eq (pv 3) pe_int (nomark _)) (pss_cons (ps_set (i := 10) sc__law_step_right.nd rfl (Or.inl rfl) (pe_lst (pa_cons (pe_ce D__law_least (hr.mono (by decide)) hG (pa_cons (pv 2) pa_nil) pass0) (pa_cons (pe_op op_powX pe_int pe_int) (pa_cons (pe_op op_add pe_int (pe_ce D__law_pick (hr.mono (by decide)) hG (pa_cons (pv 0) (pa_cons pe_int pa_nil)) pass0)) (pa_cons (pe_op op_add pe_int (pe_ce D__law_pick (hr.mono (by decide)) hG (pa_cons (pv 0) (pa_cons (pe_op op_powX pe_int pe_int) pa_nil)) pass0)) pa_nil))))))
      (pss_cons (ps_set (i := 7) sc__law_step_right.nd rfl (Or.inl rfl) (pe_ce D__law_one_of (hr.mono (by decide)) hG (pa_cons (pv 0) (pa_cons (pe_lc (own := [("_law_one", 14)]) (by rfl) sc__law_step_right.nd (pi_list (pv 10)) (blkOk_by (own := [("_law_one", 14)]) (N := ["_law_tape_here", "_law_book", "_law_own", "_law_road", "_law_some", "_law_given", "_law_seen", "_law_nth", "_law_found", "_law_stays", "_law_pool", "_law_value", "_law_is_there_here", "_law_due", "_law_one"]) (sc := defScope s__law_step_right) (by decide +kernel))
        (fun _ _ _ _ _ => (pg_name (i := 14) sc__law_step_right.nd rfl (Or.inl rfl))) (fun _ _ _ _ _ => (pts_one (pt_cmp (pc_dnotin hu (pv 14) (pv 2))))) (fun _ _ _ _ _ => (pv 14))) pa_nil)) pass0))
      (pss_cons (ps_dput hu (pv 2) (pv 7) (pe_callTy call_tuple_of (by rfl) B.n_tuple (by decide +kernel) (pa_cons (pv 4) pa_nil)) rfl)
      (pss_cons (ps_par (i := 8) (j := 9) (by rfl) sc__law_step_right.nd rfl rfl (by decide) rfl rfl (pa_cons (pe_cm M_SetBook_put (hr.mono (by decide)) hG (pv 1) (pa_cons (pv 7) (pa_cons (pv 5) pa_nil)) pass0) (pa_cons (pe_cmpR op_eq (pe_callB (call_rep hG hr.units) (by rfl) B.n_repr (by decide +kernel) (pa_cons (pv 5) pa_nil)) (pv 6) (nomark _)) pa_nil)) (by rfl))
      (pss_cons (ps_expr (pe_bm PySem.F.plainAttrs_list PySem.F.slot_list_append PySem.F.type_list_append mt_append (pv 4) (pa_cons pe_non pa_nil)))
      (pss_one (ps_ret (pe_and (pe_cmpR op_isN (pv 8) pe_non (nomark _)) (pe_one (pv 9)))))))))) pss_nil)
      (pss_cons (ps_set (i := 11) sc__law_step_right.nd rfl (Or.inl rfl) (pe_ifExp (PW.pt (pw_or (pt_cmpR (op_eqDE (Nat.lt_of_succ_lt hu)) (pv 2) pe_dnewK (nomark _)) (pw_or1 (pt_cmpR op_eq (pv 3) pe_int (nomark _))))) (pe_ce D__law_any (hr.mono (by decide)) hG (pa_cons (pv 0) pa_nil) pass0) (pe_ce D__law_one_of (hr.mono (by decide)) hG (pa_cons (pv 0) (pa_cons (pe_callTy (call_list_dK rfl) (by rfl) B.n_list (by decide +kernel) (pa_cons (pv 2) pa_nil)) pa_nil)) pass0)))
      (pss_cons (ps_par (i := 12) (j := 13) (by rfl) sc__law_step_right.nd rfl rfl (by decide) rfl rfl (pa_cons (pe_ce D__law_is_there (hr.mono (by decide)) hG (pa_cons (pv 2) (pa_cons (pv 11) pa_nil)) pass0) (pa_cons (pe_callB (call_rep hG hr.units) (by rfl) B.n_repr (by decide +kernel) (pa_cons (pe_lst (pa_cons pe_str (pa_cons (pv 11) pa_nil))) pa_nil)) pa_nil)) (by rfl))
      (pss_cons (ps_if (pt_val (pv 12)) (pss_cons (ps_expr (pe_dpop1 (pv 2) (pv 11) ⟨rfl, rfl, rfl, rfl⟩))
      (pss_one (ps_set (i := 13) sc__law_step_right.nd rfl (Or.inl rfl) (pe_callB (call_rep hG hr.units) (by rfl) B.n_repr (by decide +kernel) (pa_cons (pe_lst (pa_cons pe_str (pa_cons pe_non pa_nil))) pa_nil))))) pss_nil)
      (pss_one (ps_ret (pe_cmpR op_eq (pe_callB (call_rep hG hr.units) (by rfl) B.n_repr (by decide +kernel) (pa_cons (pe_ce D__law_gone (hr.mono (by decide)) hG (pa_cons (pv 1) (pa_cons (pv 11) pa_nil)) pass0) pa_nil)) (pv 13) (nomark _)))))))))))), ?_⟩
    obtain ⟨dx, hb'⟩ := id hb
    let Sg (c3 c4 c5 c6 c7 c8 c9 c10 c11 c12 c13 c14 : Option V) : L2.St := [some (.ref t), some (.ref b), some (.ref w'), c3, c4, c5, c6, c7, c8, c9, c10, c11, c12, c13, c14]
    refine ⟨_, rfl, t, o, 6, rfl, ht, ho, by decide, by decide, fun r o1 r0 r1 ho1 => ⟨_, rfl, t, o1, rfl, upd_same, ho1, fun l xs ds H1 nl hl hx ml N1 => ⟨_, _, rfl, ?_⟩⟩⟩
    have st : s' ≠ t := fun e => by rw [e, ht] at hs; exact tape_ne ho (Option.some.inj hs)
    have wt : w' ≠ t := fun e => by rw [e, ht] at hw; exact tape_ne ho (Option.some.inj hw)
    have N01 : Nxt t H H1 := (⟨fun b u h ne => (upd_ne ne).trans h, o1, upd_same, ho1⟩ : Nxt t H (upd H t o1)).trans N1
    have lt : l ≠ t := fun e => by rw [e, upd_same] at nl; cases nl
    have nl0 : H l = none := by rwa [upd_ne lt] at nl
    clear N1 nl
    obtain ⟨o2, ht2, ho2⟩ := id N01.tape
    dsimp only
    refine Rm.seq_mid (fun σ' H' => ∃ g, σ' = Sg (some (.int r)) (some (.ref l)) (some (.ref g)) none none none none none none none none none ∧ Nxt t H H' ∧ (H' l = some (.lst xs) ∧ DxAll K H' xs ds ∧ ((g = l) ∨ (H' g = some (.tup xs))))) ?_ (fun N hN => ?_)
    rotate_left
    · refine ⟨_, rfl, t, o2, 2, rfl, ht2, ho2, by decide, by decide, fun g o3 g0 g1 ho3 => ⟨rfl, _, rfl, ite2 (fun c => ?_) fun c => ?_⟩⟩
      · have k := TupK.put (q := t) (o := o3) ht2 (fun _ e => by obtain ⟨_, _, rfl, _⟩ := ho2; cases e) (fun _ _ e => by obtain ⟨_, _, rfl, _⟩ := ho2; cases e)
        exact ⟨_, rfl, hN _ _ ⟨l, rfl, N01.turn ho3, (upd_ne lt).trans hl, dxa_keepT k (by have := tO_mem ml; simpa only [tO] using this) hx, .inl rfl⟩⟩
      · have k := TupK.put (q := t) (o := o3) ht2 (fun _ e => by obtain ⟨_, _, rfl, _⟩ := ho2; cases e) (fun _ _ e => by obtain ⟨_, _, rfl, _⟩ := ho2; cases e)
        have hl2 := (upd_ne (o := o3) lt).trans hl
        refine ⟨_, rfl, l, xs, rfl, .inl ⟨.inl (.inl hl2), fun p np => ?_⟩⟩
        have s4 := same_new (o := .tup xs) np
        exact hN _ _ ⟨p, rfl, (N01.turn ho3).go s4, s4 _ _ hl2, dxa_keepT (k.trans (TupK.of s4)) (by have := tO_mem ml; simpa only [tO] using this) hx, .inr upd_same⟩
    clear hl hx N01 ht2 ho2
    rintro _ H1 ⟨g, rfl, N1, hl, hx, hg⟩
    obtain ⟨gd, dr⟩ : ∃ gd, Drw K H1 l g xs ds gd := by
      rcases hg with e | h
      · exact ⟨_, hl, hx, ml, .inl ⟨e, rfl⟩⟩
      · exact ⟨_, hl, hx, ml, .inr ⟨h, rfl⟩⟩
    clear hl hx hg
    obtain ⟨dg, sg, qg⟩ := dr.dx
    have F1 : Frm t s' w' H H1 := .nxt N1
    have K1 := F1.tupk ht ho hs hw
    have hs1 := N1.keep _ _ hs st
    have hw1 := N1.keep _ _ hw wt
    have rD1 := rD.keep gL K1
    have rE1 := rE.keep gL K1
    have hb1 : IsB CM H1 b s' := ⟨dx, N1.keep _ _ hb' fun e => by obtain ⟨_, _, rfl, _⟩ := ho; rw [e, ht] at hb'; cases hb'⟩
    obtain ⟨o2, ht2, ho2⟩ := id N1.tape
    have lD : D.length ≤ 18 := by rw [rD.len]; exact lL
    have lE : E'.length ≤ 18 := by rw [rE.len]; exact lL
    have lnw : l ≠ w' := fun e => by rw [e, hw] at nl0; cases nl0
    have lns : l ≠ s' := fun e => by rw [e, hs] at nl0; cases nl0
    have fin : ∀ (n : Int) (tb te : Addr) (H4 : Hp), 1 ≤ n → n ≤ 1000001 → H4 s' = some (.dK (enV (D ++ [(n, .ref tb)]))) → SqT K H4 tb xs → H4 w' = some (.dK (enV (E' ++ [(n, .ref te)]))) → SqT K H4 te xs →
        Frm t s' w' H1 H4 → H4 l = some (.lst xs) → Q (.bl true) (upd H4 l (.lst (xs ++ [.non]))) := fun n tb te H4 a1 a2 a3 a4 a5 a6 a7 a8 => by
      have kl : TupK H4 (upd H4 l (.lst (xs ++ [.non]))) := TupK.put a8 (fun _ e => by cases e) fun _ _ e => by cases e
      have k14 := a7.tupk ht2 ho2 hs1 hw1
      have x4 := dxa_keepT k14 (by have := tO_mem dr.m; simpa only [tO] using this) dr.x
      have x5 := dxa_keepT kl (by have := tO_mem dr.m; simpa only [tO] using this) x4
      obtain ⟨o4, ht4, ho4⟩ := a7.tp
      refine q _ _ (L ++ [(n, .tuple ds)]) _ ((upd_ne (Ne.symm lns)).trans a3) (((rD1.keep gL k14).keep gL kl).snoc (.tup (a4.imp (kl _ _) id) x5)) ((upd_ne (Ne.symm lnw)).trans a5) (((rE1.keep gL k14).keep gL kl).snoc (.tup (a6.imp (kl _ _) id) x5)) (gL.snoc a1 a2 dr.m lL) (by rw [List.length_append]; exact Nat.le_refl _) ⟨fun a u h h1 h2 h3 => ?_, o4, (upd_ne (Ne.symm lt)).trans ht4, ho4⟩
      exact (upd_ne fun e => by rw [e, nl0] at h; cases h).trans (a7.k a u (F1.k a u h h1 h2 h3) h1 h2 h3)
    have lput : ∀ (X : List (Int × V)), X.length ≤ 18 → (enV X).length < sizeLine := fun X h => by rw [en_len]; exact Nat.lt_of_le_of_lt h (by decide)
    have own : ∀ (n : Int) (H2 : Hp), valD E' n = none → Frm t s' w' H1 H2 → H2 w' = some (.dK (enV E')) → H2 l = some (.lst xs) → ∀ te, H2 te = none → ∃ H3, upd (upd H2 te (.tup xs)) w' (.dK (putK (enV E') (Sum.inl n) (.ref te))) = H3 ∧ H3 w' = some (.dK (enV (E' ++ [(n, .ref te)]))) ∧ H3 te = some (.tup xs) ∧ Frm t s' w' H1 H3 ∧ (∀ a u, H2 a = some u → a ≠ w' → H3 a = some u) := fun n H2 hn f2 hw2 hl2 te nte => by
      have tw : te ≠ w' := fun e => by rw [e, hw2] at nte; cases nte
      have kk : ∀ a u, H2 a = some u → a ≠ w' → upd (upd H2 te (.tup xs)) w' (.dK (putK (enV E') (Sum.inl n) (.ref te))) a = some u := fun a u h ne => (upd_ne ne).trans (same_new nte _ _ h)
      refine ⟨_, rfl, ?_, (upd_ne tw).trans upd_same, ⟨fun a u h h1 h2 h3 => kk a u (f2.k a u h h1 h2 h3) h3, ?_⟩, kk⟩
      · rw [upd_same, en_put hn]
      · obtain ⟨o', h1, h2⟩ := f2.tp
        exact ⟨o', kk _ _ h1 (Ne.symm wt), h2⟩
    refine Rm.seq_mid (fun σ' H' => σ' = Sg (some (.int r)) (some (.ref l)) (some (.ref g)) (some (.str gd.shown)) none none none none none none none none ∧ H' = H1) ?_ (fun N hN => ⟨_, rfl, .ref g, gd, rfl, dg, sg, hN _ _ ⟨rfl, rfl⟩⟩)
    have dkeep : ∀ H4, Frm t s' w' H1 H4 → Drw K H4 l g xs ds gd := fun H4 f4 => dr.keep (f4.tupk ht2 ho2 hs1 hw1) (f4.k _ _ dr.hl lt lns lnw) fun ys h => f4.k _ _ h (fun e => by obtain ⟨_, _, rfl, _⟩ := ho2; rw [e, ht2] at h; cases h) (fun e => by rw [e, hs1] at h; cases h) fun e => by rw [e, hw1] at h; cases h
    rintro _ H' ⟨rfl, e'⟩
    rw [e']
    clear e' H'
    have lx : xs.length < sizeLine := by
      have := dr.m.1
      have := dxa_len dr.x
      rw [this]
      exact Nat.lt_of_le_of_lt dr.m.1 (by decide)
    refine ⟨_, rfl, _, _, rfl, rfl, _, rfl, ite2 (fun c => ?_) fun c => ?_⟩
    · obtain ⟨n, ln⟩ := has_least E'
      obtain ⟨n1, n2, nn, _⟩ := id ln
      refine ⟨_, rfl, w', E', n, rfl, hw1, ln, by omega, fun H2 s2 => ?_⟩
      have f2 : Frm t s' w' H1 H2 := (⟨fun a u h _ _ _ => h, o2, ht2, ho2⟩ : Frm t s' w' H1 H1).same s2
      refine ⟨_, rfl, l, xs, rfl, .inl ⟨.inl (.inl (s2 _ _ dr.hl)), fun te nte => ⟨_, rfl, _, rfl, w', _, rfl, .inl ⟨_, Sum.inl n, same_new nte _ _ (s2 _ _ hw1), rfl, lput _ lE, rfl⟩, ?_⟩⟩⟩
      obtain ⟨H3, e3, hw3, hte, f3, k3⟩ := own n H2 nn f2 (s2 _ _ hw1) (s2 _ _ dr.hl) te nte
      rw [e3]
      have hs3 := k3 _ _ (s2 _ _ hs1) sw
      have hb3 : IsB CM H3 b s' := by
        obtain ⟨dz, h⟩ := hb1
        exact ⟨dz, k3 _ _ (s2 _ _ h) fun e => by rw [e, hw1] at h; cases h⟩
      obtain ⟨dz, hb3'⟩ := id hb3
      have k13 := f3.tupk ht2 ho2 hs1 hw1
      refine ⟨_, rfl, b, dz, _, rfl, hb3', rfl, _, rfl, b, s', g, D, n, xs, rfl, hb3, hs3, rD1.least rE1 ln, by omega, (dkeep _ f3).dx.2.2, fun tb H4 h4s h4t h4k => ?_⟩
      have f4 : Frm t s' w' H1 H4 := ⟨fun a u h h1 h2 h3 => h4k a u (f3.k a u h h1 h2 h3) h2, let ⟨o', h1, h2⟩ := f3.tp; ⟨o', h4k _ _ h1 (Ne.symm st), h2⟩⟩
      have d4 := dkeep _ f4
      have hw4 := h4k _ _ hw3 (Ne.symm sw)
      have hte4 := h4k _ _ hte fun e => by rw [e, hs3] at hte; cases hte
      have smn : Sm (.int n) := (Sv.int (by omega) (by omega)).sm
      refine ⟨_, rfl, .ref g, gd, rfl, d4.dx.1, d4.dx.2.1, _, rfl, rfl, _, _, rfl, ?_⟩
      refine ⟨_, rfl, .inl ⟨rfl, _, .inl (.inl d4.hl)⟩, l, _, .non, rfl, rfl, d4.hl, lx, ?_⟩
      refine ⟨_, rfl, .int n, .int n, rfl, .int _, smn, _, rfl, .int n, .int n, rfl, .int _, smn, rfl, ?_⟩
      refine ⟨_, rfl, ite2 (fun _ => ?_) fun c => by simp at c⟩
      have z := fin n tb te H4 n1 (by omega) h4s h4t hw4 (.inl (.inl hte4)) f4 d4.hl
      exact ⟨_, rfl, by simpa using z⟩
    have f0 : Frm t s' w' H1 H1 := ⟨fun a u h _ _ _ => h, o2, ht2, ho2⟩
    refine ⟨_, rfl, rfl, _, rfl, ite2 (fun c => ?_) fun c => ?_⟩
    · have p6 : CPowX 10 6 := pow32 (by decide) (by decide) (by decide) (by decide)
      have e6 : (10 : Int) ^ (6 : Int).toNat = 1000000 := by decide
      obtain ⟨n, ln⟩ := has_least E'
      obtain ⟨n1, n2, nn, _⟩ := id ln
      refine ⟨_, rfl, w', E', n, rfl, hw1, ln, by omega, fun H2 s2 => ?_⟩
      have f2 := f0.same s2
      refine ⟨_, _, rfl, rfl, p6, _, rfl, t, o2, 9, rfl, s2 _ _ ht2, ho2, by decide, by decide, fun k3 o3 k30 k31 ho3 => ⟨_, _, rfl, rfl, _, rfl, _, _, rfl, rfl, p6, t, o3, _, rfl, upd_same, ho3, by rw [e6]; decide, by rw [e6]; decide, fun k4 o4 k40 k41 ho4 => ⟨_, _, rfl, rfl, (show 4 ≤ sizeLine by decide), fun pp npp => ?_⟩⟩⟩
      rw [e6] at k41
      dsimp only [gName]
      rw [e6]
      rw [upd_upd] at npp ⊢
      have f3 : Frm t s' w' H1 (upd H2 t o4) := f2.trans ⟨fun a u h h1 _ _ => (upd_ne h1).trans h, o4, upd_same, ho4⟩
      have f4 := f3.same (same_new (o := .lst [.int n, .int 1000000, .int (1 + k3), .int (1 + k4)]) npp)
      have hp := upd_same (H := upd H2 t o4) (a := pp) (o := .lst [.int n, .int 1000000, .int (1 + k3), .int (1 + k4)])
      have hw4 : upd (upd H2 t o4) pp (.lst [.int n, .int 1000000, .int (1 + k3), .int (1 + k4)]) w' = some (.dK (enV E')) := same_new npp _ _ ((upd_ne wt).trans (s2 _ _ hw1))
      have hs4 : upd (upd H2 t o4) pp (.lst [.int n, .int 1000000, .int (1 + k3), .int (1 + k4)]) s' = some (.dK (enV D)) := same_new npp _ _ ((upd_ne st).trans (s2 _ _ hs1))
      generalize upd (upd H2 t o4) pp (.lst [.int n, .int 1000000, .int (1 + k3), .int (1 + k4)]) = H4 at f4 hp hw4 hs4 ⊢
      obtain ⟨o5, ht5, ho5⟩ := id f4.tp
      refine ⟨_, rfl, _, rfl, pp, rfl, ⟨_, .inl (.inl hp)⟩, fun Dq nDq => ?_⟩
      have zb : ∀ z ∈ [n, 1000000, 1 + k3, 1 + k4], 1 ≤ z ∧ z ≤ 1000001 := fun z hz => by
        simp only [List.mem_cons, List.not_mem_nil, or_false] at hz
        rcases hz with rfl | rfl | rfl | rfl <;> omega
      have hp' : H4 pp = some (.lst ([n, 1000000, 1 + k3, 1 + k4].map V.int)) := hp
      have nw' : ∀ {H' : Hp}, Same H4 H' → ∀ o', Same H4 (upd H' Dq o') := fun s5 o' c u h => (upd_ne fun e => by rw [e, nDq] at h; cases h).trans (s5 c u h)
      refine lc_list (xs := [n, 1000000, 1 + k3, 1 + k4].map V.int) (fun i H' => Same H4 H' ∧ ∃ ks : List Int, H' Dq = some (.lst (ks.map V.int)) ∧ ks.length ≤ i ∧ (∀ k ∈ ks, valD E' k = none ∧ 1 ≤ k ∧ k ≤ 1000001) ∧ (0 < i → ks ≠ []))
        ⟨same_new nDq, [], upd_same, Nat.le_refl _, fun _ h => (List.not_mem_nil h).elim, fun h => absurd h (Nat.lt_irrefl _)⟩ (fun i H' _ e => .inl (.inl (e.1 _ _ hp'))) ?_ ?_
      · rintro i x H' hxi ⟨s5, ks, hD, kl, hk, h0⟩
        obtain ⟨z, hz, rfl⟩ : ∃ z, [n, 1000000, 1 + k3, 1 + k4][i]? = some z ∧ x = .int z := by
          rw [List.getElem?_map] at hxi
          cases e : [n, 1000000, 1 + k3, 1 + k4][i]? with
          | none => rw [e] at hxi; cases hxi
          | some f => rw [e] at hxi; cases hxi; exact ⟨f, rfl, rfl⟩
        have i4 : i < 4 := (List.getElem?_eq_some_iff.mp hz).1
        obtain ⟨z1, z2⟩ := zb z (List.mem_of_getElem? hz)
        refine ⟨rfl, _, rfl, _, rfl, w', _, rfl, .inl ⟨_, Sum.inl z, .inl (s5 _ _ hw4), rfl, rfl⟩, ?_⟩
        rw [en_val]
        cases e : valD E' z with
        | none =>
          refine ⟨_, rfl, ite2 (fun _ => ?_) fun c => absurd rfl c⟩
          have em : (ks ++ [z]).map V.int = ks.map V.int ++ [V.int z] := by rw [List.map_append]; rfl
          refine ⟨_, rfl, _, hD, by rw [List.length_map]; exact Nat.lt_of_le_of_lt (show ks.length ≤ 4 by omega) (by decide), nw' s5 _, ks ++ [z], by rw [upd_same, em], by rw [List.length_append]; exact Nat.succ_le_succ kl, fun k hk' => ?_, fun _ => by simp⟩
          rcases List.mem_append.mp hk' with h | h
          · exact hk k h
          · rw [List.mem_singleton.mp h]; exact ⟨e, z1, z2⟩
        | some v =>
          refine ⟨_, rfl, ite2 (fun c => by simp at c) fun _ => ⟨s5, ks, hD, by omega, hk, fun _ => ?_⟩⟩
          rcases Nat.eq_zero_or_pos i with h | h
          · subst h
            cases hz
            rw [nn] at e
            cases e
          · exact h0 h
      rintro H5 ⟨s5, ks, hD, kl, hk, h0⟩
      have ks1 : 1 ≤ ks.length := List.length_pos_iff.mpr (h0 (show 0 < 4 by decide))
      have tD : Dq ≠ t := fun e => by rw [e, ht5] at nDq; cases nDq
      refine ⟨t, Dq, o5, _, rfl, s5 _ _ ht5, ho5, .inl (.inl hD), by rw [List.length_map]; exact ks1, by rw [List.length_map]; exact Nat.le_trans (show ks.length ≤ 4 from kl) (by decide), fun i v o6 hv ho6 => ?_⟩
      obtain ⟨m, hm, rfl⟩ : ∃ m, m ∈ ks ∧ v = .int m := by
        obtain ⟨m, h, e⟩ := List.mem_map.mp (List.mem_of_getElem? hv)
        exact ⟨m, h, e.symm⟩
      obtain ⟨mn, m1, m2⟩ := hk m hm
      have f6 : Frm t s' w' H1 (upd H5 t o6) := (f4.same s5).trans ⟨fun a u h h1 _ _ => (upd_ne h1).trans h, o6, upd_same, ho6⟩
      have hw6 := (upd_ne (o := o6) wt).trans (s5 _ _ hw4)
      have hs6 := (upd_ne (o := o6) st).trans (s5 _ _ hs4)
      have hl6 := (dkeep _ f6).hl
      generalize upd H5 t o6 = H6 at f6 hw6 hs6 hl6 ⊢
      refine ⟨_, rfl, l, xs, rfl, .inl ⟨.inl (.inl hl6), fun te nte => ⟨_, rfl, _, rfl, w', _, rfl, .inl ⟨_, Sum.inl m, same_new nte _ _ hw6, rfl, lput _ lE, rfl⟩, ?_⟩⟩⟩
      obtain ⟨H7, e7, hw7, hte, f7, k7⟩ := own m H6 mn f6 hw6 hl6 te nte
      rw [e7]
      have hs7 := k7 _ _ hs6 sw
      have hb7 : IsB CM H7 b s' := by
        obtain ⟨dz, h⟩ := hb1
        exact ⟨dz, f7.k _ _ h (fun e => by obtain ⟨_, _, rfl, _⟩ := ho2; rw [e, ht2] at h; cases h) (fun e => by rw [e, hs1] at h; cases h) fun e => by rw [e, hw1] at h; cases h⟩
      obtain ⟨dz, hb7'⟩ := id hb7
      have mD : valD D m = none := by
        have e := rD1.has rE1 (.int m)
        have e : (valD D m).isSome = (valD E' m).isSome := e
        rw [mn] at e
        cases c : valD D m with
        | none => rfl
        | some v => rw [c] at e; cases e
      refine ⟨_, rfl, b, dz, _, rfl, hb7', rfl, _, rfl, _, rfl, b, s', g, D, m, xs, rfl, hb7, hs7, mD, by omega, (dkeep _ f7).dx.2.2, fun tb H8 h4s h4t h4k => ?_⟩
      have f8 : Frm t s' w' H1 H8 := ⟨fun a u h h1 h2 h3 => h4k a u (f7.k a u h h1 h2 h3) h2, let ⟨o', h1, h2⟩ := f7.tp; ⟨o', h4k _ _ h1 (Ne.symm st), h2⟩⟩
      have d8 := dkeep _ f8
      have hw8 := h4k _ _ hw7 (Ne.symm sw)
      have hte8 := h4k _ _ hte fun e => by rw [e, hs7] at hte; cases hte
      refine ⟨_, rfl, .ref g, gd, rfl, d8.dx.1, d8.dx.2.1, _, rfl, rfl, _, _, rfl, ?_⟩
      refine ⟨_, rfl, .inl ⟨rfl, _, .inl (.inl d8.hl)⟩, l, _, .non, rfl, rfl, d8.hl, lx, ?_⟩
      have z := fin m tb te H8 m1 m2 h4s h4t hw8 (.inl (.inl hte8)) f8 d8.hl
      exact ⟨_, rfl, rfl, _, rfl, ite2 (fun _ => ⟨_, rfl, by simpa using z⟩) fun c => absurd rfl c⟩
    clear fin own lput
    have ff : ∀ {H2 : Hp}, Frm t s' w' H1 H2 → Frm t s' w' H H2 := fun f2 => F1.trans f2
    dsimp only [tNext]
    refine Rm.seq_mid (fun σ' H' => ∃ v d, σ' = Sg (some (.int r)) (some (.ref l)) (some (.ref g)) (some (.str gd.shown)) none none none none (some v) none none none ∧ Frm t s' w' H1 H' ∧ H' w' = some (.dK (enV E')) ∧ H' s' = some (.dK (enV D)) ∧ Dx K H' v d ∧ Sv d) ?_ (fun N hN => ?_)
    rotate_left
    · refine ⟨_, rfl, fun p np => ⟨w', _, p, rfl, same_new np _ _ hw1, rfl, upd_same, _, rfl, ?_⟩⟩
      have s2 := same_new (o := .dK []) np
      have f2 := f0.same s2
      have hw2 := s2 _ _ hw1
      have hs2 := s2 _ _ hs1
      have ht2' := s2 _ _ ht2
      generalize upd H1 p (.dK []) = H2 at s2 f2 hw2 hs2 ht2' ⊢
      have any : ∀ (N' : V → Hp → Prop), (∀ v d H3, Frm t s' w' H1 H3 → H3 w' = some (.dK (enV E')) → H3 s' = some (.dK (enV D)) → Dx K H3 v d → Sv d → N' v H3) → spAnyN K [.ref t] H2 N' E0 := fun N' k => ⟨t, o2, rfl, ht2', ho2, fun v d H3 hv sv N3 => k v d H3 (f2.trans (.nxt N3)) (N3.keep _ _ hw2 wt) (N3.keep _ _ hs2 st) (hv.upR (.of nw_same)) sv⟩
      refine ite2 (fun c => ?_) fun c => ?_
      · refine ite2 (fun _ => ?_) fun c => absurd rfl c
        exact ⟨_, rfl, any _ fun v d H3 a1 a2 a3 a4 a5 => hN _ _ ⟨v, d, rfl, a1, a2, a3, a4, a5⟩⟩
      · have ne : E' ≠ [] := fun e => c (by rw [e]; rfl)
        refine ⟨_, rfl, rfl, _, rfl, ite2 (fun _ => ?_) fun _ => ?_⟩
        · exact ⟨_, rfl, any _ fun v d H3 a1 a2 a3 a4 a5 => hN _ _ ⟨v, d, rfl, a1, a2, a3, a4, a5⟩⟩
        · refine ⟨_, rfl, _, rfl, w', _, rfl, hw2, fun q1 nq => ?_⟩
          have s3 := same_new (o := .lst ((enV E').map fun kv => kV kv.1)) nq
          have l1 : 1 ≤ ((enV E').map fun kv => kV kv.1).length := by
            rw [List.length_map, en_len]
            exact List.length_pos_iff.mpr ne
          have l2 : ((enV E').map fun kv => kV kv.1).length ≤ 1000000 := by
            rw [List.length_map, en_len]
            exact Nat.le_trans lE (by decide)
          refine ⟨t, q1, o2, _, rfl, s3 _ _ ht2', ho2, .inl (.inl upd_same), l1, l2, fun i v o4 hvi ho4 => ?_⟩
          obtain ⟨kv, hkv, rfl⟩ := List.mem_map.mp (List.mem_of_getElem? hvi)
          obtain ⟨e, he, rfl⟩ := List.mem_map.mp hkv
          have : e.1 ∈ L.map (·.1) := by
            rw [← rE.keys]
            exact List.mem_map.mpr ⟨e, he, rfl⟩
          obtain ⟨f', hf', e2⟩ := List.mem_map.mp this
          obtain ⟨b1, b2, _⟩ := gL.2 f' hf'
          have f4 := (f2.same s3).trans (⟨fun a u h h1 _ _ => (upd_ne h1).trans h, o4, upd_same, ho4⟩ : Frm t s' w' _ (upd (upd H2 q1 (.lst ((enV E').map fun kv => kV kv.1))) t o4))
          exact hN _ _ ⟨.int e.1, .int e.1, rfl, f4, (upd_ne wt).trans (s3 _ _ hw2), (upd_ne st).trans (s3 _ _ hs2), .int _, Sv.int (by omega) (by omega)⟩
    rintro _ H2 ⟨v, d, rfl, f2, hw2, hs2, hv, sv⟩
    have k12 := f2.tupk ht2 ho2 hs1 hw1
    have rD2 := rD1.keep gL k12
    have rE2 := rE1.keep gL k12
    have hb2 : IsB CM H2 b s' := by
      obtain ⟨dz, h⟩ := hb1
      exact ⟨dz, f2.k _ _ h (fun e => by obtain ⟨_, _, rfl, _⟩ := ho2; rw [e, ht2] at h; cases h) (fun e => by rw [e, hs1] at h; cases h) fun e => by rw [e, hw1] at h; cases h⟩
    have unk : Sm (.list [.str "unknown", d]) := sm_two2 (Sv.of (by decide +kernel)) sv.sm (by have := sv.dp; omega) (by have := sv.wt; omega)
    have tol : Sm (.list [.str "told", .none]) := (Sv.of (by decide +kernel)).sm
    refine ⟨_, rfl, _, rfl, w', E', v, d, rfl, hw2, hv, _, rfl, (show 2 ≤ sizeLine by decide), fun p np => ⟨.ref p, .list [.str "unknown", d], rfl, dx_two upd_same (hv.upR (.of (same_new np))), unk, _, _, rfl, ?_⟩⟩
    have s3 := same_new (o := .lst [.str "unknown", v]) np
    have f3 := f2.same s3
    have hw3 := s3 _ _ hw2
    have hs3 := s3 _ _ hs2
    have hv3 := hv.upR (.of s3)
    have rD3 := rD2.same s3
    have rE3 := rE2.same s3
    have hb3 : IsB CM (upd H2 p (.lst [.str "unknown", v])) b s' := by
      obtain ⟨dz, h⟩ := hb2
      exact ⟨dz, s3 _ _ h⟩
    generalize upd H2 p (.lst [.str "unknown", v]) = H3 at f3 hw3 hs3 hv3 rD3 rE3 hb3 ⊢
    have hh := rD3.has rE3 d
    clear rD2 rE2 hb2 hw2 hs2 hv f2 s3 np
    dsimp only
    cases c : hasD E' d with
    | false =>
      refine ⟨_, rfl, _, rfl, ?_⟩
      refine ite2 (fun c => by cases c) fun _ => ?_
      refine ⟨_, rfl, _, rfl, b, s', D, v, d, rfl, hb3, hs3, hv3, fun i e h => ?_, fun _ p H4 s4 hx4 => ?_⟩
      · subst e
        have hh : (valD D i).isSome = hasD E' (.int i) := hh
        rw [c, h] at hh
        cases hh
      · refine ⟨.ref p, _, rfl, hx4, unk, _, rfl, rfl, ?_⟩
        have z := q D E' L H4 (s4 _ _ hs3) (rD3.same s4) (s4 _ _ hw3) (rE3.same s4) gL (Nat.le_succ _) (ff (f3.same s4))
        simpa using z
    | true =>
      obtain ⟨i, v2, rfl, hv2⟩ := has_is c
      have hD : (valD D i).isSome = true := by
        have hh : (valD D i).isSome = hasD E' (.int i) := hh
        rw [hh, c]
      cases hv3
      refine ⟨_, rfl, _, rfl, ?_⟩
      refine ite2 (fun _ => ?_) fun c => absurd rfl c
      refine ⟨_, rfl, w', rfl, .inl ⟨_, .inl hw3⟩, _, rfl, _, Sum.inl i, v2, hw3, rfl, by rw [en_val]; exact hv2, ?_⟩
      rw [en_drop]
      have sw3 : ∀ o' a u, H3 a = some u → a ≠ w' → upd H3 w' o' a = some u := fun o' a u h ne => (upd_ne ne).trans h
      have kw : TupK H3 (upd H3 w' (.dK (enV (dropD E' i)))) := TupK.put hw3 (fun _ e => by cases e) fun _ _ e => by cases e
      refine ⟨(show 2 ≤ sizeLine by decide), fun p np => ⟨.ref p, .list [.str "told", .none], rfl, .lst (.inl (.inl upd_same)) (.cons (.str _) (.cons .non .nil)), tol, ?_⟩⟩
      have s5 := same_new (o := .lst [.str "told", .non]) np
      have f5 : Frm t s' w' H1 (upd (upd H3 w' (.dK (enV (dropD E' i)))) p (.lst [.str "told", .non])) := by
        refine Frm.same ⟨fun a u h h1 h2 h3 => sw3 _ a u (f3.k a u h h1 h2 h3) h3, ?_⟩ s5
        obtain ⟨o', h1, h2⟩ := f3.tp
        exact ⟨o', sw3 _ _ _ h1 (Ne.symm wt), h2⟩
      have hw5 := s5 _ _ (upd_same (H := H3) (a := w') (o := .dK (enV (dropD E' i))))
      have hs5 := s5 _ _ (sw3 (.dK (enV (dropD E' i))) _ _ hs3 sw)
      have k35 := kw.trans (TupK.of s5)
      have hb5 : IsB CM (upd (upd H3 w' (.dK (enV (dropD E' i)))) p (.lst [.str "told", .non])) b s' := by
        obtain ⟨dz, h⟩ := hb3
        exact ⟨dz, s5 _ _ (sw3 _ _ _ h fun e => by rw [e, hw3] at h; cases h)⟩
      generalize upd (upd H3 w' (.dK (enV (dropD E' i)))) p (.lst [.str "told", .non]) = H5 at f5 hw5 hs5 k35 hb5 ⊢
      have rD5 := rD3.keep gL k35
      have rE5 := (rE3.keep gL k35).drop (n := i)
      refine ⟨_, rfl, _, rfl, b, s', D, .int i, .int i, rfl, hb5, hs5, .int i, fun j ej _ p2 H6 h1 h2 h3 => ?_, fun hn => ?_⟩
      · cases ej
        have f6 : Frm t s' w' H1 H6 := ⟨fun a u h h1 h2 h4 => h3 a u (f5.k a u h h1 h2 h4) h2, let ⟨o', h1, h2⟩ := f5.tp; ⟨o', h3 _ _ h1 (Ne.symm st), h2⟩⟩
        have k56 : TupK H5 H6 := fun b' ys h => by
          rcases h with h | ⟨o', h⟩
          · exact .inl (h3 _ _ h fun e => by rw [e, hs5] at h; cases h)
          · exact .inr ⟨o', h3 _ _ h fun e => by rw [e, hs5] at h; cases h⟩
        refine ⟨.ref p2, .list [.str "told", .none], rfl, .lst (.inl (.inl h2)) (.cons (.str _) (.cons .non .nil)), tol, _, rfl, rfl, ?_⟩
        have z := q (dropD D i) (dropD E' i) (dropL L i) H6 h1 ((rD5.drop (n := i)).keep (gL.drop i) k56) (h3 _ _ hw5 (Ne.symm sw)) (rE5.keep (gL.drop i) k56) (gL.drop i) (Nat.le_trans (List.length_filter_le ..) (Nat.le_succ _)) (ff f6)
        simpa using z
      · have hn : (valD D i).isSome = false := hn
        rw [hD] at hn
        cases hn
end
end K14

set_option maxRecDepth 100000
set_option maxHeartbeats 4000000
namespace K14
open PySem PySem.Spec L2 Rm
open PyProof.Rows hiding St
section
variable {P : Program} {w : World} {K : PySem.W.Frag} {mg : Str → Option Value} {base : Heap}
theorem newB {C : Addr} {H : Hp} {x dx s : Addr} (nx : H x = none) (nd : H dx = none) (ne : dx ≠ x) (ns : upd (upd H dx (.own x)) x (.ins C dx []) s = none) :
    ∃ H2, upd (upd (upd (upd H dx (.own x)) x (.ins C dx [])) s (.dK [])) x (.ins C dx [("_sets", .ref s)]) = H2 ∧ Same H H2 ∧ IsB C H2 x s ∧ H2 s = some (.dK []) ∧ H s = none := by
  have sx : s ≠ x := fun e => by rw [e, upd_same] at ns; cases ns
  have sd : s ≠ dx := fun e => by rw [e, upd_ne ne, upd_same] at ns; cases ns
  have hs : H s = none := by rwa [upd_ne sx, upd_ne sd] at ns
  refine ⟨_, rfl, fun b u h => ?_, ⟨dx, upd_same⟩, (upd_ne sx).trans upd_same, hs⟩
  have bx : b ≠ x := fun e => by rw [e, nx] at h; cases h
  have bd : b ≠ dx := fun e => by rw [e, nd] at h; cases h
  have bs : b ≠ s := fun e => by rw [e, hs] at h; cases h
  exact (upd_ne bx).trans ((upd_ne bs).trans ((upd_ne bx).trans ((upd_ne bd).trans h)))
structure LawS (K : PySem.W.Frag) (C : Addr) (Hs : Hp) (t b1 s1 b2 s2 w : Addr) (j : Nat) (H : Hp) : Prop where
  tp : ∃ o, H t = some o ∧ IsTape o
  hb : IsB C H b1 s1
  ob : IsB C H b2 s2
  os : H s2 = some (.dK (enV []))
  d : ∃ D E L, H s1 = some (.dK (enV D)) ∧ Rel K H D L ∧ H w = some (.dK (enV E)) ∧ Rel K H E L ∧ GoodL L ∧ L.length ≤ j
  sm : Same Hs H
theorem IsB.frm {C t s w b s' : Addr} {H H' : Hp} {o : HO} {k1 k2 : List (Key × V)} (f : Frm t s w H H') (ht : H t = some o) (ho : IsTape o) (hs : H s = some (.dK k1)) (hw : H w = some (.dK k2)) (h : IsB C H b s') : IsB C H' b s' := by
  obtain ⟨dx, h⟩ := h
  obtain ⟨_, _, rfl, _⟩ := ho
  exact ⟨dx, f.k _ _ h (fun e => by rw [e, ht] at h; cases h) (fun e => by rw [e, hs] at h; cases h) fun e => by rw [e, hw] at h; cases h⟩
def CnB (P : Program) (w : World) (K : PySem.W.Frag) (mg : Str → Option Value) (base : Heap) (C : Addr) : Prop := Cn P w K mg base CX0 1 "SetBook" C ["self"] (spNewB C)
theorem sc_law : FnScope ["_law_script", "_law_start", "_law_tape_here", "_law_book", "_law_other", "_law_own", "_law_turn", "_law_values"] ["_law_script"] (defScope s_law) :=
  ⟨rfl, rfl, rfl, by decide +kernel, rfl, by decide +kernel, by decide +kernel⟩
theorem ok_law {f CM UC : Addr} {fd : FuncData} (F : Fun K "law" "law" s_law f fd) (B : Bl mg)
    (D__law_tape : Ce P w K mg base CX0 1 "_law_tape" ["_law_script", "_law_start"] (spTape K))
    (D__law_any : Ce P w K mg base CX0 3 "_law_any" ["_law_tape_here"] (spAnyN K))
    (D_SetBook : Cn P w K mg base CX0 1 "SetBook" CM ["self"] (spNewB CM))
    (D__law_step_right : Ce P w K mg base CX0 9 "_law_step_right" ["_law_tape_here", "_law_book", "_law_own"] (spStep K CM))
    (D__law_right : Ce P w K mg base CX0 9 "_law_right" ["_law_book", "_law_own", "_law_values"] (spRight K CM))
    (K_SetBook_write : CmK P w K mg base CX0 2 CM "write" ["self", "members"] "members" (spWrite K CM)) (KS_SetBook_put : CmKs P w K mg base CX0 1 CM "put" ["self", "number", "members"] ["number", "members"] (spPut K CM))
    (M_SetBook_taken : Cm P w K mg base CX0 1 CM "taken" ["self"] (spTaken CM))
    (KQ_forget : CmK P w K mg base CX0 6 CM "forget" ["self", "number"] "number" (fun vs H Q _ => spForX K CM UC vs H Q E0)) :
    FnG P w K mg base CX0 10 f fd ["_law_script"] (spLaw K) := by
  refine fn_q F sc_law (fun vs H Q E h => ?_) (fun cdv A outer s H vs Q E hr hG h => ?_)
  · obtain ⟨a, ns, rfl, _⟩ := h
    rfl
  · obtain ⟨a, ns, rfl, ha, hn, hb, q⟩ := h
    have hu := hu_of hr
    refine ⟨_, (pss_cons (ps_for PassesOwn.never rfl (pi_range1 (by rfl) B.n_range (pa_cons (pe_callB (call_max2 rfl) (by rfl) B.n_max (by decide +kernel) (pa_cons pe_int (pa_cons (pe_callB (call_min2 rfl) (by rfl) B.n_min (by decide +kernel) (pa_cons pe_int (pa_cons (pe_callB call_len_seq (by rfl) B.n_len (by decide +kernel) (pa_cons (pv 0) pa_nil)) pa_nil))) pa_nil))) pa_nil)) (pg_name (i := 1) sc_law.nd rfl (Or.inl rfl)) (pss_cons (ps_set (i := 2) sc_law.nd rfl (Or.inl rfl) (pe_ce D__law_tape (hr.mono (by decide)) hG (pa_cons (pv 0) (pa_cons (pv 1) pa_nil)) pass0))
      (pss_cons (ps_par3 (i := 3) (j := 4) (l := 5) (by rfl) sc_law.nd rfl rfl rfl (by decide) (by decide) (by decide) rfl rfl rfl (pa_cons (pe_cn0 D_SetBook (hr.mono (by decide)) hG pass0) (pa_cons (pe_cn0 D_SetBook (hr.mono (by decide)) hG pass0) (pa_cons pe_dnewK pa_nil))) (by rfl))
      (pss_cons (ps_for PassesOwn.never rfl (pi_range1 (by rfl) B.n_range (pa_cons pe_int pa_nil)) (pg_name (i := 6) sc_law.nd rfl (Or.inl rfl)) (pss_cons (ps_if (pt_not (pt_val (pe_ce D__law_step_right (hr.mono (by decide)) hG (pa_cons (pv 2) (pa_cons (pv 3) (pa_cons (pv 5) pa_nil))) pass0))) (pss_one (ps_ret pe_bl)) pss_nil)
      (pss_cons (ps_set (i := 7) sc_law.nd rfl (Or.inl rfl) (pe_lst (pa_cons (pe_ce D__law_any (hr.mono (by decide)) hG (pa_cons (pv 2) pa_nil) pass0) (pa_cons pe_int (pa_cons (pe_op op_add (pe_callB call_lenD (by rfl) B.n_len (by decide +kernel) (pa_cons (pv 5) pa_nil)) pe_int) (pa_cons (pe_op op_add (pe_op op_powX pe_int pe_int) pe_int) pa_nil))))))
      (pss_one (ps_if (PW.pt (pw_or (pt_not (pt_val (pe_ce D__law_right (hr.mono (by decide)) hG (pa_cons (pv 3) (pa_cons (pv 5) (pa_cons (pv 7) pa_nil))) pass0))) (pw_or1 (pt_not (pt_val (pe_ce D__law_right (hr.mono (by decide)) hG (pa_cons (pv 4) (pa_cons pe_dnewK (pa_cons (pv 7) pa_nil))) pass0)))))) (pss_one (ps_ret pe_bl)) pss_nil)))))
      (pss_cons (ps_if (PW.pt (pw_or (pt_cmpR op_ne (pe_cmK K_SetBook_write (hr.mono (by decide)) hG (pv 4) (pe_lst pa_nil) pass0) pe_int (nomark _)) (pw_or1 (pt_cmpR op_notN (pe_cmKs KS_SetBook_put (hr.mono (by decide)) hG (pv 4) (pk_cons pe_int (pk_cons (pe_tup pa_nil) pk_nil)) pass0) pe_non (nomark _))))) (pss_one (ps_ret pe_bl)) pss_nil)
      (pss_one (ps_if (PW.pt (pw_or (pt_cmpR (op_neD hr.units) (pe_cm0 M_SetBook_taken (hr.mono (by decide)) hG (pv 4) pass0) (pe_lst (pa_cons pe_int (pa_cons pe_int pa_nil))) (nomark _)) (pw_or (pt_cmpR op_notN (pe_cmK KQ_forget (hr.mono (by decide)) hG (pv 4) pe_int pass0) pe_non (nomark _)) (pw_or1 (pt_cmpR (op_neD hr.units) (pe_cm0 M_SetBook_taken (hr.mono (by decide)) hG (pv 4) pass0) (pe_lst (pa_cons pe_int pa_nil)) (nomark _)))))) (pss_one (ps_ret pe_bl)) pss_nil)))))))
      (pss_one (ps_ret pe_bl))), ?_⟩
    have lz : ∀ {n : Nat}, n ≤ 100 → n ≤ sizeLine := fun h => Nat.le_trans h (by decide)
    have hlen : (ns.map V.int).length = ns.length := List.length_map ..
    let Sg (c1 c2 c3 c4 c5 c6 c7 : Option V) : L2.St := [some (.ref a), c1, c2, c3, c4, c5, c6, c7]
    refine ⟨_, rfl, _, _, rfl, .inl ha, 3, _, rfl, 1, _, rfl, _, rfl, ?_, ?_, for_range (fun i σ H' => (∃ c1 c2 c3 c4 c5 c6 c7, σ = Sg c1 c2 c3 c4 c5 c6 c7) ∧ Same H H')
      ⟨⟨_, _, _, _, _, _, _, rfl⟩, .refl _⟩ ?_ ?_⟩
    · split <;> split <;> omega
    · split <;> split <;> omega
    rotate_left
    · rintro σ H' _
      exact q _
    rintro i σ Hs hi ⟨⟨c1, c2, c3, c4, c5, c6, c7, rfl⟩, s1⟩
    have hi3 : (i : Int) ≤ 3 := by
      have h2 : (i : Int) < ((if (if ((ns.map V.int).length : Int) < 3 then ((ns.map V.int).length : Int) else 3) > 1 then (if ((ns.map V.int).length : Int) < 3 then ((ns.map V.int).length : Int) else 3) else 1) : Int) := by
        have := hi
        omega
      split at h2 <;> (try split at h2) <;> omega
    refine ⟨_, rfl, _, rfl, a, ns, _, rfl, sq_up s1 ha, hn, hb, by omega, by omega, fun t o nt ho => ?_⟩
    have S1 := same_new (o := o) nt
    have ht := upd_same (H := Hs) (a := t) (o := o)
    generalize upd Hs t o = H1 at S1 ht ⊢
    dsimp only [gName]
    refine Rm.seq_mid (fun σ' H' => ∃ b1 s1' b2 s2 w', σ' = Sg (some (.int (0 + (i : Nat)))) (some (.ref t)) (some (.ref b1)) (some (.ref b2)) (some (.ref w')) c6 c7 ∧ LawS K CM Hs t b1 s1' b2 s2 w' 0 H' ∧ (Hs s1' = none ∧ Hs w' = none ∧ Hs s2 = none) ∧ (s1' ≠ w' ∧ s2 ≠ s1' ∧ s2 ≠ w' ∧ s1' ≠ t ∧ w' ≠ t ∧ s2 ≠ t)) ?_ (fun N hN => ?_)
    rotate_left
    · refine fun x1 d1 nx1 nd1 ne1 => ⟨x1, d1, rfl, upd_same, fun y1 ny1 => ⟨rfl, ?_⟩⟩
      obtain ⟨H2, e2, sm2, hb1, hs1, ny1'⟩ := newB nx1 nd1 ne1 ny1
      rw [e2]
      refine fun x2 d2 nx2 nd2 ne2 => ⟨x2, d2, rfl, upd_same, fun y2 ny2 => ⟨rfl, ?_⟩⟩
      obtain ⟨H3, e3, sm3, hb2, hs2, ny2'⟩ := newB nx2 nd2 ne2 ny2
      rw [e3]
      refine fun w' nw => ⟨_, _, _, rfl, ?_⟩
      have sm4 := same_new (o := .dK []) nw
      have hw4 := upd_same (H := H3) (a := w') (o := .dK [])
      have nw3 : H3 w' = none := nw
      generalize upd H3 w' (.dK []) = H4 at sm4 hw4 ⊢
      have y12 : y1 ≠ y2 := fun e => by rw [← e, hs1] at ny2'; cases ny2'
      have y1w : y1 ≠ w' := fun e => by rw [← e, sm3 _ _ hs1] at nw3; cases nw3
      have y2w : y2 ≠ w' := fun e => by rw [← e, hs2] at nw3; cases nw3
      have tt : ∀ {y : Addr} {Hx : Hp}, Same H1 Hx → Hx y = none → y ≠ t := fun s n e => by rw [e, s _ _ ht] at n; cases n
      obtain ⟨z1, hz1⟩ := hb1
      obtain ⟨z2, hz2⟩ := hb2
      exact hN _ _ ⟨x1, y1, x2, y2, w', rfl, ⟨⟨o, sm4 _ _ (sm3 _ _ (sm2 _ _ ht)), ho⟩, ⟨z1, sm4 _ _ (sm3 _ _ hz1)⟩, ⟨z2, sm4 _ _ hz2⟩, sm4 _ _ hs2, ⟨[], [], [], sm4 _ _ (sm3 _ _ hs1), .nil, hw4, .nil, ⟨by decide, fun _ h => by cases h⟩, Nat.le_refl _⟩, ((S1.trans sm2).trans sm3).trans sm4⟩,
        ⟨none_of S1 ny1', none_of (S1.trans (sm2.trans sm3)) nw3, none_of (S1.trans sm2) ny2'⟩, y1w, Ne.symm y12, y2w, tt (.refl _) ny1', tt (sm2.trans sm3) nw3, tt sm2 ny2'⟩
    rintro _ H2 ⟨b1, y1, b2, y2, w', rfl, LS, ⟨f1, f2, f3⟩, n1, n2, n3, n4, n5, n6⟩
    have good0 : GoodL [] := ⟨by decide, fun _ h => by cases h⟩
    have p6 : CPowX 10 6 := pow32 (by decide) (by decide) (by decide) (by decide)
    have e6 : (10 : Int) ^ (6 : Int).toNat = 1000000 := by decide
    refine Rm.seq_mid (fun σ' H' => ∃ e6 e7, σ' = Sg (some (.int (0 + (i : Nat)))) (some (.ref t)) (some (.ref b1)) (some (.ref b2)) (some (.ref w')) e6 e7 ∧ LawS K CM Hs t b1 y1 b2 y2 w' 16 H') ?_ (fun N hN => ?_)
    rotate_left
    · refine ⟨16, rfl, by decide, by decide, for_range (n := 16) (fun j σ H' => ∃ e6 e7, σ = Sg (some (.int (0 + (i : Nat)))) (some (.ref t)) (some (.ref b1)) (some (.ref b2)) (some (.ref w')) e6 e7 ∧ LawS K CM Hs t b1 y1 b2 y2 w' j H') ⟨_, _, rfl, LS⟩ ?_ (fun σ H' h => hN _ _ h)⟩
      rintro j σ H3 hj ⟨d6, d7, rfl, ⟨⟨o3, ht3, ho3⟩, hb1, hb2, hs2, ⟨D, E', L, hs1, rD, hw, rE, gL, lL⟩, sm⟩⟩
      refine ⟨_, rfl, _, rfl, _, rfl, t, b1, y1, w', o3, D, E', L, rfl, ht3, ho3, hb1, hs1, rD, hw, rE, gL, by omega, n1, fun D2 E2 L2 H4 h1 r1 h2 r2 g2 l2 fr => ?_⟩
      refine ⟨_, rfl, ite2 (fun c => by cases c) fun _ => ?_⟩
      obtain ⟨o4, ht4, ho4⟩ := id fr.tp
      have hb14 := hb1.frm fr ht3 ho3 hs1 hw
      have hb24 := hb2.frm fr ht3 ho3 hs1 hw
      have hs24 := fr.k _ _ hs2 n6 n2 n3
      have sm4 : Same Hs H4 := fun a u h => fr.k _ _ (sm _ _ h) (fun e => by rw [e, nt] at h; cases h) (fun e => by rw [e, f1] at h; cases h) fun e => by rw [e, f2] at h; cases h
      clear hb1 hb2 hs2 hs1 rD hw rE fr sm ht3 ho3
      refine ⟨_, rfl, t, o4, rfl, ht4, ho4, fun v d H5 hv sv N5 => ?_⟩
      have k45 := TupK.nxt ht4 ho4 N5
      have h15 := N5.keep _ _ h1 n4
      have h25 := N5.keep _ _ h2 n5
      have hs25 := N5.keep _ _ hs24 n6
      have r15 := r1.keep g2 k45
      have r25 := r2.keep g2 k45
      have bk : ∀ {b s}, IsB CM H4 b s → IsB CM H5 b s := fun ⟨dx, h⟩ => ⟨dx, N5.keep _ _ h fun e => by obtain ⟨_, _, rfl, _⟩ := ho4; rw [e, ht4] at h; cases h⟩
      have hb15 := bk hb14
      have hb25 := bk hb24
      have hv5 : Dx K H5 v d := hv.upR (.of nw_same)
      have sm5 : Same Hs H5 := fun a u h => N5.keep _ _ (sm4 _ _ h) fun e => by rw [e, nt] at h; cases h
      obtain ⟨o5, ht5, ho5⟩ := N5.tape
      clear h1 h2 hs24 r1 r2 hb14 hb24 hv sm4 ht4 ho4 bk k45
      have lE2 : E2.length ≤ 20 := by rw [r25.len]; exact g2.1
      refine ⟨_, rfl, w', _, rfl, h25, _, _, rfl, rfl, _, _, rfl, rfl, p6, _, _, rfl, rfl, (show 4 ≤ sizeLine by decide), fun vl nvl => ?_⟩
      rw [en_len, e6]
      have s6 := same_new (o := .lst [v, .int 0, .int (((E2.length : Nat) : Int) + 1), .int (1000000 + 1)]) nvl
      have hvl := upd_same (H := H5) (a := vl) (o := .lst [v, .int 0, .int (((E2.length : Nat) : Int) + 1), .int (1000000 + 1)])
      generalize upd H5 vl (.lst [v, .int 0, .int (((E2.length : Nat) : Int) + 1), .int (1000000 + 1)]) = H6 at s6 hvl ⊢
      have sm6 := sm5.trans s6
      have up : ∀ {Hx Hy b s}, Same Hx Hy → IsB CM Hx b s → IsB CM Hy b s := fun s ⟨dx, h⟩ => ⟨dx, s _ _ h⟩
      have dall : ∀ H', Same H6 H' → DxAll K H' [v, .int 0, .int (((E2.length : Nat) : Int) + 1), .int (1000000 + 1)] [d, .int 0, .int (((E2.length : Nat) : Int) + 1), .int (1000000 + 1)] := fun H' s => .cons (hv5.upR (.of (s6.trans s))) (.cons (.int _) (.cons (.int _) (.cons (.int _) .nil)))
      have svs : ∀ d' ∈ [d, .int 0, .int (((E2.length : Nat) : Int) + 1), .int (1000000 + 1)], Sv d' := fun d' hd => by
        simp only [List.mem_cons, List.not_mem_nil, or_false] at hd
        rcases hd with rfl | rfl | rfl | rfl
        · exact sv
        · exact Sv.int (by decide) (by decide)
        · exact Sv.int (by omega) (by omega)
        · exact Sv.int (by decide) (by decide)
      refine ⟨_, rfl, _, rfl, _, rfl, b1, y1, w', vl, D2, E2, L2, _, _, rfl, up s6 hb15, s6 _ _ h15, r15.same s6, s6 _ _ h25, r25.same s6, g2, hvl, (show 4 ≤ 10 by decide), dall _ (.refl _), svs, fun H7 s7 => ?_⟩
      refine ⟨_, rfl, ite2 (fun c => by cases c) fun _ => ?_⟩
      have s57 := s6.trans s7
      refine ⟨_, rfl, fun w2 nw2 => ?_⟩
      have s8 := same_new (o := .dK []) nw2
      have s68 := s7.trans s8
      have s58 := s6.trans s68
      refine ⟨_, rfl, b2, y2, w2, vl, [], [], [], _, _, rfl, up s58 hb25, s58 _ _ hs25, .nil, upd_same, .nil, good0, s68 _ _ hvl, (show 4 ≤ 10 by decide), dall _ s68, svs, fun H9 s9 => ?_⟩
      have s59 := s58.trans s9
      refine ⟨_, rfl, ite2 (fun c => by cases c) fun _ => ?_⟩
      exact ⟨_, _, rfl, ⟨o5, s59 _ _ ht5, ho5⟩, up s59 hb15, up s59 hb25, s59 _ _ hs25, ⟨D2, E2, L2, s59 _ _ h15, r15.same s59, s59 _ _ h25, r25.same s59, g2, by omega⟩, sm5.trans s59⟩
    rintro _ H3 ⟨d6, d7, rfl, ⟨_, _, hb2, hs2, _, sm⟩⟩
    obtain ⟨z2, hz2⟩ := hb2
    have by2 : b2 ≠ y2 := fun e => by rw [e, hs2] at hz2; cases hz2
    have l1 : Least ([] : List (Int × V)) 1 := ⟨by decide, by decide, rfl, fun m a b => by omega⟩
    refine Rm.seq_mid (fun σ' H' => ∃ u1 u2, σ' = Sg (some (.int (0 + (i : Nat)))) (some (.ref t)) (some (.ref b1)) (some (.ref b2)) (some (.ref w')) d6 d7 ∧ H' b2 = some (.ins CM z2 [("_sets", .ref y2)]) ∧ H' y2 = some (.dK (enV [((1 : Int), u1), ((3 : Int), u2)])) ∧ Same Hs H') ?_ (fun N hN => ?_)
    rotate_left
    · refine ⟨_, rfl, b2, z2, _, rfl, hz2, rfl, (show 0 ≤ sizeLine by decide), fun l0 nl0 => ?_⟩
      have s4 := same_new (o := .lst []) nl0
      refine ⟨b2, y2, l0, [], 1, [], rfl, ⟨z2, s4 _ _ hz2⟩, s4 _ _ hs2, l1, by decide, .inl (.inl (.inl upd_same)), fun tb H4 h4s h4t h4k => ⟨rfl, _, rfl, ite2 (fun c => by simp at c) fun _ => ?_⟩⟩
      have hz4 := h4k _ _ (s4 _ _ hz2) by2
      have sm4 : Same Hs H4 := fun a u h => h4k _ _ (s4 _ _ (sm _ _ h)) fun e => by rw [e, f3] at h; cases h
      refine ⟨_, rfl, b2, z2, _, rfl, hz4, rfl, (show 0 ≤ sizeLine by decide), fun l5 nl5 => ?_⟩
      have s5 := same_new (o := .tup []) nl5
      refine ⟨rfl, b2, y2, l5, [((1 : Int), .ref tb)], 3, [], rfl, ⟨z2, s5 _ _ hz4⟩, s5 _ _ h4s, rfl, (show 1 < 100 by decide), .inr (.inl (.inl upd_same)), fun tb2 H5 h5s h5t h5k => ⟨rfl, _, rfl, ite2 (fun c => by simp at c) fun _ => ?_⟩⟩
      exact hN _ _ ⟨_, _, rfl, h5k _ _ (s5 _ _ hz4) by2, h5s, fun a u h => h5k _ _ (s5 _ _ (sm4 _ _ h)) fun e => by rw [e, f3] at h; cases h⟩
    clear hz2 hs2 sm
    rintro _ H3 ⟨u1, u2, rfl, hz3, hs3, sm⟩
    have srt : ∀ {ys zs : List Int}, ys.Perm zs → ys.Pairwise (fun a b => a ≤ b) → zs.Pairwise (fun a b => a ≤ b) → ys = zs := fun p a b => List.Perm.eq_of_pairwise (le := fun a b => a ≤ b) (fun _ _ _ _ h1 h2 => Int.le_antisymm h1 h2) a b p
    refine ⟨_, rfl, b2, z2, _, rfl, hz3, rfl, b2, y2, [((1 : Int), u1), ((3 : Int), u2)], rfl, ⟨z2, hz3⟩, hs3, (show 2 < 64 by decide), fun ys p py sy np => ?_⟩
    have ey : ys = [1, 3] := srt py sy (by decide)
    subst ey
    have s4 := same_new (o := .lst ([(1 : Int), 3].map V.int)) np
    have hp4 := upd_same (H := H3) (a := p) (o := .lst ([(1 : Int), 3].map V.int))
    generalize upd H3 p (.lst ([(1 : Int), 3].map V.int)) = H4 at s4 hp4 ⊢
    refine ⟨(show 2 ≤ sizeLine by decide), fun p5 np5 => ?_⟩
    have s5 := same_new (o := .lst [V.int 1, .int 3]) np5
    refine ⟨.list ([1, 3].map .int), .list ([1, 3].map .int), .lst (.inl (.inl (s5 _ _ hp4))) (dp_ints [1, 3]), .lst (.inl (.inl upd_same)) (dp_ints [1, 3]), sh_ints _, sh_ints _, _, rfl, ite2 (fun c => by rw [eqv_ints] at c; cases c) fun _ => ?_⟩
    have s45 := s4.trans s5
    have hz5 := s45 _ _ hz3
    have hs5 := s45 _ _ hs3
    refine ⟨_, rfl, b2, z2, _, rfl, hz5, rfl, b2, y2, [((1 : Int), u1), ((3 : Int), u2)], .int 1, .int 1, rfl, ⟨z2, hz5⟩, hs5, .int 1, fun j ej _ => ?_, fun hn => by cases hn⟩
    cases ej
    refine ⟨rfl, _, rfl, ite2 (fun c => by simp at c) fun _ => ?_⟩
    have sm5 := sm.trans s45
    have hd : dropD [((1 : Int), u1), ((3 : Int), u2)] 1 = [((3 : Int), u2)] := by simp [dropD]
    rw [hd]
    have hz6 := (upd_ne (o := .dK (enV [((3 : Int), u2)])) by2).trans hz5
    have hs6 := upd_same (H := upd H4 p5 (.lst [V.int 1, .int 3])) (a := y2) (o := .dK (enV [((3 : Int), u2)]))
    have sm6 : Same Hs (upd (upd H4 p5 (.lst [V.int 1, .int 3])) y2 (.dK (enV [((3 : Int), u2)]))) := fun a u h => (upd_ne fun e => by rw [e, f3] at h; cases h).trans (sm5 _ _ h)
    generalize upd (upd H4 p5 (.lst [V.int 1, .int 3])) y2 (.dK (enV [((3 : Int), u2)])) = H6 at hz6 hs6 sm6 ⊢
    refine ⟨_, rfl, b2, z2, _, rfl, hz6, rfl, b2, y2, [((3 : Int), u2)], rfl, ⟨z2, hz6⟩, hs6, (show 1 < 64 by decide), fun ys p py sy np => ?_⟩
    have ey : ys = [3] := srt py sy (by decide)
    subst ey
    have s7 := same_new (o := .lst ([(3 : Int)].map V.int)) np
    have hp7 := upd_same (H := H6) (a := p) (o := .lst ([(3 : Int)].map V.int))
    generalize upd H6 p (.lst ([(3 : Int)].map V.int)) = H7 at s7 hp7 ⊢
    refine ⟨(show 1 ≤ sizeLine by decide), fun p8 np8 => ?_⟩
    have s8 := same_new (o := .lst [V.int 3]) np8
    refine ⟨.list ([3].map .int), .list ([3].map .int), .lst (.inl (.inl (s8 _ _ hp7))) (dp_ints [3]), .lst (.inl (.inl upd_same)) (dp_ints [3]), sh_ints _, sh_ints _, _, rfl, ite2 (fun c => by rw [eqv_ints] at c; cases c) fun _ => ?_⟩
    exact ⟨⟨_, _, _, _, _, _, _, rfl⟩, s1.trans (sm6.trans (s7.trans s8))⟩
end
end K14

set_option maxRecDepth 100000
set_option maxHeartbeats 4000000
namespace K14
open PySem PySem.Spec L2 Rm
open PyProof.Rows hiding St
/-! ### what the top has written -/
theorem all_mk {P : Program} {w : World} {K : PySem.W.Frag} {h : Heap} {mg : Str → Option Value} {fa C_SetBook C_UnknownSet C_MarkError : Addr} (X : K.In h) (G : h.Ns mainGlobals mg) (hfa : mg "law" = some (.ref fa))
    (E_UnknownSet : EF P w K mg C_UnknownSet C_MarkError "UnknownSet" "value")
    (m_g : PySem.W.nsIn K mainGlobals "SetBook" = some (some (.ref C_SetBook))) (m_pg : PySem.W.plainGet K C_SetBook Str.empty = true) (m_hd : PySem.W.hasDictIn K C_SetBook = true) (m_po : PySem.W.plainOver K C_SetBook = true)
    (m_sa : PySem.W.findIn K (.ref C_SetBook) "__setattr__" = some (some (.builtin "object.__setattr__"))) (m_mk : PySem.W.makesIn K C_SetBook = true) (m_k : PySem.W.keepIn K (.ref C_SetBook) = true)
    (m_ty : PySem.W.typeIn K (.ref C_SetBook) = some (.type "type")) (m_ha : PySem.W.findIn K (.ref C_SetBook) "__class__" = some (some (.builtin "object.__class__")))
    (m_hn : PySem.W.specialIn K (.builtin "object.__class__") "__get__" = some (some (.builtin "getset_descriptor.__get__"))) (m_ht : PySem.W.takesIn K (.builtin "object.__class__") = some true)
    (m_hm : PySem.W.mroIn K C_SetBook (.type "object") = some true) (m_ns : PySem.W.findIn K (.ref C_SetBook) "_sets" = some none)
    {f_is_whole : Addr} {oc_is_whole kV_is_whole dc_is_whole pm_is_whole cd_is_whole ct_is_whole : Value} {od_is_whole an_is_whole : Option Addr} {sl_is_whole : Array (Option Value)}
    (a_is_whole : PySem.W.nsIn K mainGlobals "is_whole" = some (some (.ref f_is_whole))) (l_is_whole : K.lookup f_is_whole = some ⟨oc_is_whole, od_is_whole, .func (PySem.W.fnOf "is_whole" "is_whole" (defArgs s_is_whole) (defBody s_is_whole) (defScope s_is_whole) .none kV_is_whole dc_is_whole pm_is_whole an_is_whole cd_is_whole ct_is_whole), sl_is_whole⟩) (c_is_whole : PySem.W.codeIn K cd_is_whole "is_whole" = true) (k_is_whole : PySem.W.keepIn K (.ref f_is_whole) = true)
    {f_SetBook___init__ : Addr} {oc_SetBook___init__ kV_SetBook___init__ dc_SetBook___init__ pm_SetBook___init__ cd_SetBook___init__ ct_SetBook___init__ : Value} {od_SetBook___init__ an_SetBook___init__ : Option Addr} {sl_SetBook___init__ : Array (Option Value)}
    (a_SetBook___init__ : PySem.W.findIn K (.ref C_SetBook) "__init__" = some (some (.ref f_SetBook___init__))) (i_SetBook___init__ : PySem.W.isFn K (.ref f_SetBook___init__) = true) (l_SetBook___init__ : K.lookup f_SetBook___init__ = some ⟨oc_SetBook___init__, od_SetBook___init__, .func (PySem.W.fnOf "__init__" "SetBook.__init__" (defArgs s_SetBook___init__) (defBody s_SetBook___init__) (defScope s_SetBook___init__) .none kV_SetBook___init__ dc_SetBook___init__ pm_SetBook___init__ an_SetBook___init__ cd_SetBook___init__ ct_SetBook___init__), sl_SetBook___init__⟩) (c_SetBook___init__ : PySem.W.codeIn K cd_SetBook___init__ "SetBook.__init__" = true) (k_SetBook___init__ : PySem.W.keepIn K (.ref f_SetBook___init__) = true)
    {f_SetBook_write : Addr} {oc_SetBook_write kV_SetBook_write dc_SetBook_write pm_SetBook_write cd_SetBook_write ct_SetBook_write : Value} {od_SetBook_write an_SetBook_write : Option Addr} {sl_SetBook_write : Array (Option Value)}
    (a_SetBook_write : PySem.W.findIn K (.ref C_SetBook) "write" = some (some (.ref f_SetBook_write))) (i_SetBook_write : PySem.W.isFn K (.ref f_SetBook_write) = true) (l_SetBook_write : K.lookup f_SetBook_write = some ⟨oc_SetBook_write, od_SetBook_write, .func (PySem.W.fnOf "write" "SetBook.write" (defArgs s_SetBook_write) (defBody s_SetBook_write) (defScope s_SetBook_write) .none kV_SetBook_write dc_SetBook_write pm_SetBook_write an_SetBook_write cd_SetBook_write ct_SetBook_write), sl_SetBook_write⟩) (c_SetBook_write : PySem.W.codeIn K cd_SetBook_write "SetBook.write" = true) (k_SetBook_write : PySem.W.keepIn K (.ref f_SetBook_write) = true)
    {f_SetBook_put : Addr} {oc_SetBook_put kV_SetBook_put dc_SetBook_put pm_SetBook_put cd_SetBook_put ct_SetBook_put : Value} {od_SetBook_put an_SetBook_put : Option Addr} {sl_SetBook_put : Array (Option Value)}
    (a_SetBook_put : PySem.W.findIn K (.ref C_SetBook) "put" = some (some (.ref f_SetBook_put))) (i_SetBook_put : PySem.W.isFn K (.ref f_SetBook_put) = true) (l_SetBook_put : K.lookup f_SetBook_put = some ⟨oc_SetBook_put, od_SetBook_put, .func (PySem.W.fnOf "put" "SetBook.put" (defArgs s_SetBook_put) (defBody s_SetBook_put) (defScope s_SetBook_put) .none kV_SetBook_put dc_SetBook_put pm_SetBook_put an_SetBook_put cd_SetBook_put ct_SetBook_put), sl_SetBook_put⟩) (c_SetBook_put : PySem.W.codeIn K cd_SetBook_put "SetBook.put" = true) (k_SetBook_put : PySem.W.keepIn K (.ref f_SetBook_put) = true)
    {f_SetBook_forget : Addr} {oc_SetBook_forget kV_SetBook_forget dc_SetBook_forget pm_SetBook_forget cd_SetBook_forget ct_SetBook_forget : Value} {od_SetBook_forget an_SetBook_forget : Option Addr} {sl_SetBook_forget : Array (Option Value)}
    (a_SetBook_forget : PySem.W.findIn K (.ref C_SetBook) "forget" = some (some (.ref f_SetBook_forget))) (i_SetBook_forget : PySem.W.isFn K (.ref f_SetBook_forget) = true) (l_SetBook_forget : K.lookup f_SetBook_forget = some ⟨oc_SetBook_forget, od_SetBook_forget, .func (PySem.W.fnOf "forget" "SetBook.forget" (defArgs s_SetBook_forget) (defBody s_SetBook_forget) (defScope s_SetBook_forget) .none kV_SetBook_forget dc_SetBook_forget pm_SetBook_forget an_SetBook_forget cd_SetBook_forget ct_SetBook_forget), sl_SetBook_forget⟩) (c_SetBook_forget : PySem.W.codeIn K cd_SetBook_forget "SetBook.forget" = true) (k_SetBook_forget : PySem.W.keepIn K (.ref f_SetBook_forget) = true)
    {f_SetBook_taken : Addr} {oc_SetBook_taken kV_SetBook_taken dc_SetBook_taken pm_SetBook_taken cd_SetBook_taken ct_SetBook_taken : Value} {od_SetBook_taken an_SetBook_taken : Option Addr} {sl_SetBook_taken : Array (Option Value)}
    (a_SetBook_taken : PySem.W.findIn K (.ref C_SetBook) "taken" = some (some (.ref f_SetBook_taken))) (i_SetBook_taken : PySem.W.isFn K (.ref f_SetBook_taken) = true) (l_SetBook_taken : K.lookup f_SetBook_taken = some ⟨oc_SetBook_taken, od_SetBook_taken, .func (PySem.W.fnOf "taken" "SetBook.taken" (defArgs s_SetBook_taken) (defBody s_SetBook_taken) (defScope s_SetBook_taken) .none kV_SetBook_taken dc_SetBook_taken pm_SetBook_taken an_SetBook_taken cd_SetBook_taken ct_SetBook_taken), sl_SetBook_taken⟩) (c_SetBook_taken : PySem.W.codeIn K cd_SetBook_taken "SetBook.taken" = true) (k_SetBook_taken : PySem.W.keepIn K (.ref f_SetBook_taken) = true)
    {f_SetBook__check_taken : Addr} {oc_SetBook__check_taken kV_SetBook__check_taken dc_SetBook__check_taken pm_SetBook__check_taken cd_SetBook__check_taken ct_SetBook__check_taken : Value} {od_SetBook__check_taken an_SetBook__check_taken : Option Addr} {sl_SetBook__check_taken : Array (Option Value)}
    (a_SetBook__check_taken : PySem.W.findIn K (.ref C_SetBook) "_check_taken" = some (some (.ref f_SetBook__check_taken))) (i_SetBook__check_taken : PySem.W.isFn K (.ref f_SetBook__check_taken) = true) (l_SetBook__check_taken : K.lookup f_SetBook__check_taken = some ⟨oc_SetBook__check_taken, od_SetBook__check_taken, .func (PySem.W.fnOf "_check_taken" "SetBook._check_taken" (defArgs s_SetBook__check_taken) (defBody s_SetBook__check_taken) (defScope s_SetBook__check_taken) .none kV_SetBook__check_taken dc_SetBook__check_taken pm_SetBook__check_taken an_SetBook__check_taken cd_SetBook__check_taken ct_SetBook__check_taken), sl_SetBook__check_taken⟩) (c_SetBook__check_taken : PySem.W.codeIn K cd_SetBook__check_taken "SetBook._check_taken" = true) (k_SetBook__check_taken : PySem.W.keepIn K (.ref f_SetBook__check_taken) = true)
    {f_SetBook___getitem__ : Addr} {oc_SetBook___getitem__ kV_SetBook___getitem__ dc_SetBook___getitem__ pm_SetBook___getitem__ cd_SetBook___getitem__ ct_SetBook___getitem__ : Value} {od_SetBook___getitem__ an_SetBook___getitem__ : Option Addr} {sl_SetBook___getitem__ : Array (Option Value)}
    (a_SetBook___getitem__ : PySem.W.findIn K (.ref C_SetBook) "__getitem__" = some (some (.ref f_SetBook___getitem__))) (i_SetBook___getitem__ : PySem.W.isFn K (.ref f_SetBook___getitem__) = true) (l_SetBook___getitem__ : K.lookup f_SetBook___getitem__ = some ⟨oc_SetBook___getitem__, od_SetBook___getitem__, .func (PySem.W.fnOf "__getitem__" "SetBook.__getitem__" (defArgs s_SetBook___getitem__) (defBody s_SetBook___getitem__) (defScope s_SetBook___getitem__) .none kV_SetBook___getitem__ dc_SetBook___getitem__ pm_SetBook___getitem__ an_SetBook___getitem__ cd_SetBook___getitem__ ct_SetBook___getitem__), sl_SetBook___getitem__⟩) (c_SetBook___getitem__ : PySem.W.codeIn K cd_SetBook___getitem__ "SetBook.__getitem__" = true) (k_SetBook___getitem__ : PySem.W.keepIn K (.ref f_SetBook___getitem__) = true)
    {f_SetBook___contains__ : Addr} {oc_SetBook___contains__ kV_SetBook___contains__ dc_SetBook___contains__ pm_SetBook___contains__ cd_SetBook___contains__ ct_SetBook___contains__ : Value} {od_SetBook___contains__ an_SetBook___contains__ : Option Addr} {sl_SetBook___contains__ : Array (Option Value)}
    (a_SetBook___contains__ : PySem.W.findIn K (.ref C_SetBook) "__contains__" = some (some (.ref f_SetBook___contains__))) (i_SetBook___contains__ : PySem.W.isFn K (.ref f_SetBook___contains__) = true) (l_SetBook___contains__ : K.lookup f_SetBook___contains__ = some ⟨oc_SetBook___contains__, od_SetBook___contains__, .func (PySem.W.fnOf "__contains__" "SetBook.__contains__" (defArgs s_SetBook___contains__) (defBody s_SetBook___contains__) (defScope s_SetBook___contains__) .none kV_SetBook___contains__ dc_SetBook___contains__ pm_SetBook___contains__ an_SetBook___contains__ cd_SetBook___contains__ ct_SetBook___contains__), sl_SetBook___contains__⟩) (c_SetBook___contains__ : PySem.W.codeIn K cd_SetBook___contains__ "SetBook.__contains__" = true) (k_SetBook___contains__ : PySem.W.keepIn K (.ref f_SetBook___contains__) = true)
    {f_SetBook___len__ : Addr} {oc_SetBook___len__ kV_SetBook___len__ dc_SetBook___len__ pm_SetBook___len__ cd_SetBook___len__ ct_SetBook___len__ : Value} {od_SetBook___len__ an_SetBook___len__ : Option Addr} {sl_SetBook___len__ : Array (Option Value)}
    (a_SetBook___len__ : PySem.W.findIn K (.ref C_SetBook) "__len__" = some (some (.ref f_SetBook___len__))) (i_SetBook___len__ : PySem.W.isFn K (.ref f_SetBook___len__) = true) (l_SetBook___len__ : K.lookup f_SetBook___len__ = some ⟨oc_SetBook___len__, od_SetBook___len__, .func (PySem.W.fnOf "__len__" "SetBook.__len__" (defArgs s_SetBook___len__) (defBody s_SetBook___len__) (defScope s_SetBook___len__) .none kV_SetBook___len__ dc_SetBook___len__ pm_SetBook___len__ an_SetBook___len__ cd_SetBook___len__ ct_SetBook___len__), sl_SetBook___len__⟩) (c_SetBook___len__ : PySem.W.codeIn K cd_SetBook___len__ "SetBook.__len__" = true) (k_SetBook___len__ : PySem.W.keepIn K (.ref f_SetBook___len__) = true)
    {f__law_tape : Addr} {oc__law_tape kV__law_tape dc__law_tape pm__law_tape cd__law_tape ct__law_tape : Value} {od__law_tape an__law_tape : Option Addr} {sl__law_tape : Array (Option Value)}
    (a__law_tape : PySem.W.nsIn K mainGlobals "_law_tape" = some (some (.ref f__law_tape))) (l__law_tape : K.lookup f__law_tape = some ⟨oc__law_tape, od__law_tape, .func (PySem.W.fnOf "_law_tape" "_law_tape" (defArgs s__law_tape) (defBody s__law_tape) (defScope s__law_tape) .none kV__law_tape dc__law_tape pm__law_tape an__law_tape cd__law_tape ct__law_tape), sl__law_tape⟩) (c__law_tape : PySem.W.codeIn K cd__law_tape "_law_tape" = true) (k__law_tape : PySem.W.keepIn K (.ref f__law_tape) = true)
    {f__law_pick : Addr} {oc__law_pick kV__law_pick dc__law_pick pm__law_pick cd__law_pick ct__law_pick : Value} {od__law_pick an__law_pick : Option Addr} {sl__law_pick : Array (Option Value)}
    (a__law_pick : PySem.W.nsIn K mainGlobals "_law_pick" = some (some (.ref f__law_pick))) (l__law_pick : K.lookup f__law_pick = some ⟨oc__law_pick, od__law_pick, .func (PySem.W.fnOf "_law_pick" "_law_pick" (defArgs s__law_pick) (defBody s__law_pick) (defScope s__law_pick) .none kV__law_pick dc__law_pick pm__law_pick an__law_pick cd__law_pick ct__law_pick), sl__law_pick⟩) (c__law_pick : PySem.W.codeIn K cd__law_pick "_law_pick" = true) (k__law_pick : PySem.W.keepIn K (.ref f__law_pick) = true)
    {f__law_one_of : Addr} {oc__law_one_of kV__law_one_of dc__law_one_of pm__law_one_of cd__law_one_of ct__law_one_of : Value} {od__law_one_of an__law_one_of : Option Addr} {sl__law_one_of : Array (Option Value)}
    (a__law_one_of : PySem.W.nsIn K mainGlobals "_law_one_of" = some (some (.ref f__law_one_of))) (l__law_one_of : K.lookup f__law_one_of = some ⟨oc__law_one_of, od__law_one_of, .func (PySem.W.fnOf "_law_one_of" "_law_one_of" (defArgs s__law_one_of) (defBody s__law_one_of) (defScope s__law_one_of) .none kV__law_one_of dc__law_one_of pm__law_one_of an__law_one_of cd__law_one_of ct__law_one_of), sl__law_one_of⟩) (c__law_one_of : PySem.W.codeIn K cd__law_one_of "_law_one_of" = true) (k__law_one_of : PySem.W.keepIn K (.ref f__law_one_of) = true)
    {f__law_any : Addr} {oc__law_any kV__law_any dc__law_any pm__law_any cd__law_any ct__law_any : Value} {od__law_any an__law_any : Option Addr} {sl__law_any : Array (Option Value)}
    (a__law_any : PySem.W.nsIn K mainGlobals "_law_any" = some (some (.ref f__law_any))) (l__law_any : K.lookup f__law_any = some ⟨oc__law_any, od__law_any, .func (PySem.W.fnOf "_law_any" "_law_any" (defArgs s__law_any) (defBody s__law_any) (defScope s__law_any) .none kV__law_any dc__law_any pm__law_any an__law_any cd__law_any ct__law_any), sl__law_any⟩) (c__law_any : PySem.W.codeIn K cd__law_any "_law_any" = true) (k__law_any : PySem.W.keepIn K (.ref f__law_any) = true)
    {f__law_list : Addr} {oc__law_list kV__law_list dc__law_list pm__law_list cd__law_list ct__law_list : Value} {od__law_list an__law_list : Option Addr} {sl__law_list : Array (Option Value)}
    (a__law_list : PySem.W.nsIn K mainGlobals "_law_list" = some (some (.ref f__law_list))) (l__law_list : K.lookup f__law_list = some ⟨oc__law_list, od__law_list, .func (PySem.W.fnOf "_law_list" "_law_list" (defArgs s__law_list) (defBody s__law_list) (defScope s__law_list) .none kV__law_list dc__law_list pm__law_list an__law_list cd__law_list ct__law_list), sl__law_list⟩) (c__law_list : PySem.W.codeIn K cd__law_list "_law_list" = true) (k__law_list : PySem.W.keepIn K (.ref f__law_list) = true)
    {f__law_got : Addr} {oc__law_got kV__law_got dc__law_got pm__law_got cd__law_got ct__law_got : Value} {od__law_got an__law_got : Option Addr} {sl__law_got : Array (Option Value)}
    (a__law_got : PySem.W.nsIn K mainGlobals "_law_got" = some (some (.ref f__law_got))) (l__law_got : K.lookup f__law_got = some ⟨oc__law_got, od__law_got, .func (PySem.W.fnOf "_law_got" "_law_got" (defArgs s__law_got) (defBody s__law_got) (defScope s__law_got) .none kV__law_got dc__law_got pm__law_got an__law_got cd__law_got ct__law_got), sl__law_got⟩) (c__law_got : PySem.W.codeIn K cd__law_got "_law_got" = true) (k__law_got : PySem.W.keepIn K (.ref f__law_got) = true)
    {f__law_gone : Addr} {oc__law_gone kV__law_gone dc__law_gone pm__law_gone cd__law_gone ct__law_gone : Value} {od__law_gone an__law_gone : Option Addr} {sl__law_gone : Array (Option Value)}
    (a__law_gone : PySem.W.nsIn K mainGlobals "_law_gone" = some (some (.ref f__law_gone))) (l__law_gone : K.lookup f__law_gone = some ⟨oc__law_gone, od__law_gone, .func (PySem.W.fnOf "_law_gone" "_law_gone" (defArgs s__law_gone) (defBody s__law_gone) (defScope s__law_gone) .none kV__law_gone dc__law_gone pm__law_gone an__law_gone cd__law_gone ct__law_gone), sl__law_gone⟩) (c__law_gone : PySem.W.codeIn K cd__law_gone "_law_gone" = true) (k__law_gone : PySem.W.keepIn K (.ref f__law_gone) = true)
    {f__law_is_there : Addr} {oc__law_is_there kV__law_is_there dc__law_is_there pm__law_is_there cd__law_is_there ct__law_is_there : Value} {od__law_is_there an__law_is_there : Option Addr} {sl__law_is_there : Array (Option Value)}
    (a__law_is_there : PySem.W.nsIn K mainGlobals "_law_is_there" = some (some (.ref f__law_is_there))) (l__law_is_there : K.lookup f__law_is_there = some ⟨oc__law_is_there, od__law_is_there, .func (PySem.W.fnOf "_law_is_there" "_law_is_there" (defArgs s__law_is_there) (defBody s__law_is_there) (defScope s__law_is_there) .none kV__law_is_there dc__law_is_there pm__law_is_there an__law_is_there cd__law_is_there ct__law_is_there), sl__law_is_there⟩) (c__law_is_there : PySem.W.codeIn K cd__law_is_there "_law_is_there" = true) (k__law_is_there : PySem.W.keepIn K (.ref f__law_is_there) = true)
    {f__law_right : Addr} {oc__law_right kV__law_right dc__law_right pm__law_right cd__law_right ct__law_right : Value} {od__law_right an__law_right : Option Addr} {sl__law_right : Array (Option Value)}
    (a__law_right : PySem.W.nsIn K mainGlobals "_law_right" = some (some (.ref f__law_right))) (l__law_right : K.lookup f__law_right = some ⟨oc__law_right, od__law_right, .func (PySem.W.fnOf "_law_right" "_law_right" (defArgs s__law_right) (defBody s__law_right) (defScope s__law_right) .none kV__law_right dc__law_right pm__law_right an__law_right cd__law_right ct__law_right), sl__law_right⟩) (c__law_right : PySem.W.codeIn K cd__law_right "_law_right" = true) (k__law_right : PySem.W.keepIn K (.ref f__law_right) = true)
    {f__law_least : Addr} {oc__law_least kV__law_least dc__law_least pm__law_least cd__law_least ct__law_least : Value} {od__law_least an__law_least : Option Addr} {sl__law_least : Array (Option Value)}
    (a__law_least : PySem.W.nsIn K mainGlobals "_law_least" = some (some (.ref f__law_least))) (l__law_least : K.lookup f__law_least = some ⟨oc__law_least, od__law_least, .func (PySem.W.fnOf "_law_least" "_law_least" (defArgs s__law_least) (defBody s__law_least) (defScope s__law_least) .none kV__law_least dc__law_least pm__law_least an__law_least cd__law_least ct__law_least), sl__law_least⟩) (c__law_least : PySem.W.codeIn K cd__law_least "_law_least" = true) (k__law_least : PySem.W.keepIn K (.ref f__law_least) = true)
    {f__law_step_right : Addr} {oc__law_step_right kV__law_step_right dc__law_step_right pm__law_step_right cd__law_step_right ct__law_step_right : Value} {od__law_step_right an__law_step_right : Option Addr} {sl__law_step_right : Array (Option Value)}
    (a__law_step_right : PySem.W.nsIn K mainGlobals "_law_step_right" = some (some (.ref f__law_step_right))) (l__law_step_right : K.lookup f__law_step_right = some ⟨oc__law_step_right, od__law_step_right, .func (PySem.W.fnOf "_law_step_right" "_law_step_right" (defArgs s__law_step_right) (defBody s__law_step_right) (defScope s__law_step_right) .none kV__law_step_right dc__law_step_right pm__law_step_right an__law_step_right cd__law_step_right ct__law_step_right), sl__law_step_right⟩) (c__law_step_right : PySem.W.codeIn K cd__law_step_right "_law_step_right" = true) (k__law_step_right : PySem.W.keepIn K (.ref f__law_step_right) = true)
    {f_law : Addr} {oc_law kV_law dc_law pm_law cd_law ct_law : Value} {od_law an_law : Option Addr} {sl_law : Array (Option Value)}
    (a_law : PySem.W.nsIn K mainGlobals "law" = some (some (.ref f_law))) (l_law : K.lookup f_law = some ⟨oc_law, od_law, .func (PySem.W.fnOf "law" "law" (defArgs s_law) (defBody s_law) (defScope s_law) .none kV_law dc_law pm_law an_law cd_law ct_law), sl_law⟩) (c_law : PySem.W.codeIn K cd_law "law" = true) (k_law : PySem.W.keepIn K (.ref f_law) = true)
    (fn0 : PySem.W.fnIn K f_SetBook___getitem__ = true)
    (fn1 : PySem.W.fnIn K f_SetBook___contains__ = true)
    (fn2 : PySem.W.fnIn K f_SetBook___len__ = true)
    (n_int : PySem.W.nsIn K mainGlobals "int" = some none) (n_len : PySem.W.nsIn K mainGlobals "len" = some none) (n_isinstance : PySem.W.nsIn K mainGlobals "isinstance" = some none) (n_str : PySem.W.nsIn K mainGlobals "str" = some none) (n_range : PySem.W.nsIn K mainGlobals "range" = some none) (n_max : PySem.W.nsIn K mainGlobals "max" = some none) (n_min : PySem.W.nsIn K mainGlobals "min" = some none) (n_list : PySem.W.nsIn K mainGlobals "list" = some none) (n_repr : PySem.W.nsIn K mainGlobals "repr" = some none) (n_enumerate : PySem.W.nsIn K mainGlobals "enumerate" = some none) (n_tuple : PySem.W.nsIn K mainGlobals "tuple" = some none) (n_sorted : PySem.W.nsIn K mainGlobals "sorted" = some none) (n_bool : PySem.W.nsIn K mainGlobals "bool" = some none) (n_dict : PySem.W.nsIn K mainGlobals "dict" = some none) (n_set : PySem.W.nsIn K mainGlobals "set" = some none) (n_ValueError : PySem.W.nsIn K mainGlobals "ValueError" = some none) :
    ∃ fd : FuncData, (∀ (s : Shared) (v : Value), BindsTo s fd ⟨[v], []⟩ [("_law_script", v)]) ∧ ∀ base : Heap, K.In base → base.Ns mainGlobals mg → FnG P w K mg base CX0 10 fa fd ["_law_script"] (spLaw K) := by
  have e := hfa.symm.trans (PySem.W.mg_of X G a_law)
  cases e
  have MG : ∀ {x : Str} {v : Value}, PySem.W.nsIn K mainGlobals x = some (some v) → mg x = some v := fun e => PySem.W.mg_of X G e
  have MN : ∀ {x : Str}, PySem.W.nsIn K mainGlobals x = some none → mg x = none := fun e => PySem.W.mg_none_of X G e
  have B : Bl mg := ⟨MN n_int, MN n_len, MN n_isinstance, MN n_str, MN n_range, MN n_max, MN n_min, MN n_list, MN n_repr, MN n_enumerate, MN n_tuple, MN n_sorted, MN n_bool, MN n_dict, MN n_set, MN n_ValueError⟩
  have F_is_whole := fun_mk (st := s_is_whole) l_is_whole c_is_whole k_is_whole
  have b_is_whole := F_is_whole.binds (ps := ["value"]) fun _ _ _ _ _ _ us hl => match us, hl with | [_], _ => rfl
  have F_SetBook___init__ := fun_mk (st := s_SetBook___init__) l_SetBook___init__ c_SetBook___init__ k_SetBook___init__
  have b_SetBook___init__ := F_SetBook___init__.binds (ps := ["self"]) fun _ _ _ _ _ _ us hl => match us, hl with | [_], _ => rfl
  have F_SetBook_write := fun_mk (st := s_SetBook_write) l_SetBook_write c_SetBook_write k_SetBook_write
  have b_SetBook_write := F_SetBook_write.binds (ps := ["self", "members"]) fun _ _ _ _ _ _ us hl => match us, hl with | [_, _], _ => rfl
  have F_SetBook_put := fun_mk (st := s_SetBook_put) l_SetBook_put c_SetBook_put k_SetBook_put
  have b_SetBook_put := F_SetBook_put.binds (ps := ["self", "number", "members"]) fun _ _ _ _ _ _ us hl => match us, hl with | [_, _, _], _ => rfl
  have F_SetBook_forget := fun_mk (st := s_SetBook_forget) l_SetBook_forget c_SetBook_forget k_SetBook_forget
  have b_SetBook_forget := F_SetBook_forget.binds (ps := ["self", "number"]) fun _ _ _ _ _ _ us hl => match us, hl with | [_, _], _ => rfl
  have F_SetBook_taken := fun_mk (st := s_SetBook_taken) l_SetBook_taken c_SetBook_taken k_SetBook_taken
  have b_SetBook_taken := F_SetBook_taken.binds (ps := ["self"]) fun _ _ _ _ _ _ us hl => match us, hl with | [_], _ => rfl
  have F_SetBook__check_taken := fun_mk (st := s_SetBook__check_taken) l_SetBook__check_taken c_SetBook__check_taken k_SetBook__check_taken
  have b_SetBook__check_taken := F_SetBook__check_taken.binds (ps := ["self", "number"]) fun _ _ _ _ _ _ us hl => match us, hl with | [_, _], _ => rfl
  have F_SetBook___getitem__ := fun_mk (st := s_SetBook___getitem__) l_SetBook___getitem__ c_SetBook___getitem__ k_SetBook___getitem__
  have b_SetBook___getitem__ := F_SetBook___getitem__.binds (ps := ["self", "number"]) fun _ _ _ _ _ _ us hl => match us, hl with | [_, _], _ => rfl
  have F_SetBook___contains__ := fun_mk (st := s_SetBook___contains__) l_SetBook___contains__ c_SetBook___contains__ k_SetBook___contains__
  have b_SetBook___contains__ := F_SetBook___contains__.binds (ps := ["self", "number"]) fun _ _ _ _ _ _ us hl => match us, hl with | [_, _], _ => rfl
  have F_SetBook___len__ := fun_mk (st := s_SetBook___len__) l_SetBook___len__ c_SetBook___len__ k_SetBook___len__
  have b_SetBook___len__ := F_SetBook___len__.binds (ps := ["self"]) fun _ _ _ _ _ _ us hl => match us, hl with | [_], _ => rfl
  have F__law_tape := fun_mk (st := s__law_tape) l__law_tape c__law_tape k__law_tape
  have b__law_tape := F__law_tape.binds (ps := ["_law_script", "_law_start"]) fun _ _ _ _ _ _ us hl => match us, hl with | [_, _], _ => rfl
  have F__law_pick := fun_mk (st := s__law_pick) l__law_pick c__law_pick k__law_pick
  have b__law_pick := F__law_pick.binds (ps := ["_law_tape_here", "_law_many"]) fun _ _ _ _ _ _ us hl => match us, hl with | [_, _], _ => rfl
  have F__law_one_of := fun_mk (st := s__law_one_of) l__law_one_of c__law_one_of k__law_one_of
  have b__law_one_of := F__law_one_of.binds (ps := ["_law_tape_here", "_law_items"]) fun _ _ _ _ _ _ us hl => match us, hl with | [_, _], _ => rfl
  have F__law_any := fun_mk (st := s__law_any) l__law_any c__law_any k__law_any
  have b__law_any := F__law_any.binds (ps := ["_law_tape_here"]) fun _ _ _ _ _ _ us hl => match us, hl with | [_], _ => rfl
  have F__law_list := fun_mk (st := s__law_list) l__law_list c__law_list k__law_list
  have b__law_list := F__law_list.binds (ps := ["_law_tape_here"]) fun _ _ _ _ _ _ us hl => match us, hl with | [_], _ => rfl
  have F__law_got := fun_mk (st := s__law_got) l__law_got c__law_got k__law_got
  have b__law_got := F__law_got.binds (ps := ["_law_book", "_law_nth"]) fun _ _ _ _ _ _ us hl => match us, hl with | [_, _], _ => rfl
  have F__law_gone := fun_mk (st := s__law_gone) l__law_gone c__law_gone k__law_gone
  have b__law_gone := F__law_gone.binds (ps := ["_law_book", "_law_nth"]) fun _ _ _ _ _ _ us hl => match us, hl with | [_, _], _ => rfl
  have F__law_is_there := fun_mk (st := s__law_is_there) l__law_is_there c__law_is_there k__law_is_there
  have b__law_is_there := F__law_is_there.binds (ps := ["_law_own", "_law_value"]) fun _ _ _ _ _ _ us hl => match us, hl with | [_, _], _ => rfl
  have F__law_right := fun_mk (st := s__law_right) l__law_right c__law_right k__law_right
  have b__law_right := F__law_right.binds (ps := ["_law_book", "_law_own", "_law_values"]) fun _ _ _ _ _ _ us hl => match us, hl with | [_, _, _], _ => rfl
  have F__law_least := fun_mk (st := s__law_least) l__law_least c__law_least k__law_least
  have b__law_least := F__law_least.binds (ps := ["_law_own"]) fun _ _ _ _ _ _ us hl => match us, hl with | [_], _ => rfl
  have F__law_step_right := fun_mk (st := s__law_step_right) l__law_step_right c__law_step_right k__law_step_right
  have b__law_step_right := F__law_step_right.binds (ps := ["_law_tape_here", "_law_book", "_law_own"]) fun _ _ _ _ _ _ us hl => match us, hl with | [_, _, _], _ => rfl
  have F_law := fun_mk (st := s_law) l_law c_law k_law
  have b_law := F_law.binds (ps := ["_law_script"]) fun _ _ _ _ _ _ us hl => match us, hl with | [_], _ => rfl
  refine ⟨PySem.W.fnOf "law" "law" (defArgs s_law) (defBody s_law) (defScope s_law) .none kV_law dc_law pm_law an_law cd_law ct_law, fun s v => .of_eq rfl, fun base _ _ => ?_⟩
  have BC : BkC K C_SetBook := ⟨⟨⟨m_pg, m_hd, m_po, m_sa⟩, m_ty, m_ha, m_hn, m_ht, m_hm⟩, m_ns⟩
  have XU := E_UnknownSet.er base
  have D_is_whole : Ce P w K mg base CX0 1 "is_whole" ["value"] (fun vs H Q _ => ∃ x d, vs = [x] ∧ Dx K H x d ∧ Q (.bl (isI d)) H) := ⟨_, _, MG a_is_whole, k_is_whole, b_is_whole, ok_whole F_is_whole B⟩
  have D_SetBook : Cn P w K mg base CX0 1 "SetBook" C_SetBook ["self"] (spNewB C_SetBook) := ⟨_, _, MG m_g, ⟨m_mk, a_SetBook___init__, i_SetBook___init__, m_k⟩, b_SetBook___init__, ok_new F_SetBook___init__ BC⟩
  have IN_SetBook : OwnM P w K mg base CX0 2 C_SetBook "__contains__" ["self", "number"] (spHas K C_SetBook) := ⟨_, _, a_SetBook___contains__, i_SetBook___contains__, fn1, b_SetBook___contains__, ok_has F_SetBook___contains__ BC D_is_whole⟩
  have LEN_SetBook : OwnM P w K mg base CX0 1 C_SetBook "__len__" ["self"] (spLenB C_SetBook) := ⟨_, _, a_SetBook___len__, i_SetBook___len__, fn2, b_SetBook___len__, ok_len F_SetBook___len__ B BC⟩
  have M_SetBook__check_taken : Cm P w K mg base (L2.CX P w) 5 C_SetBook "_check_taken" ["self", "number"] (spChkX K C_SetBook C_UnknownSet) := ⟨_, _, BC.oc.cls, ⟨a_SetBook__check_taken, i_SetBook__check_taken, k_SetBook__check_taken⟩, b_SetBook__check_taken, ok_chk F_SetBook__check_taken XU IN_SetBook⟩
  have GET_SetBook : OwnM P w K mg base (L2.CX P w) 6 C_SetBook "__getitem__" ["self", "number"] (spGetX K C_SetBook C_UnknownSet) := ⟨_, _, a_SetBook___getitem__, i_SetBook___getitem__, fn0, b_SetBook___getitem__, ok_get F_SetBook___getitem__ BC M_SetBook__check_taken⟩
  have okf := ok_for (P := P) (w := w) (base := base) F_SetBook_forget BC M_SetBook__check_taken
  have M_SetBook_forget : Cm P w K mg base (L2.CX P w) 6 C_SetBook "forget" ["self", "number"] (spForX K C_SetBook C_UnknownSet) := ⟨_, _, BC.oc.cls, ⟨a_SetBook_forget, i_SetBook_forget, k_SetBook_forget⟩, b_SetBook_forget, okf⟩
  have KQ_forget : CmK P w K mg base CX0 6 C_SetBook "forget" ["self", "number"] "number" (fun vs H Q _ => spForX K C_SetBook C_UnknownSet vs H Q E0) := ⟨_, _, BC.oc.cls, ⟨a_SetBook_forget, i_SetBook_forget, k_SetBook_forget⟩, ⟨fun s us v h => match us, h with | [_], _ => .of_eq rfl⟩, okf.quiet⟩
  have okp := ok_put (P := P) (w := w) (base := base) F_SetBook_put B BC
  have M_SetBook_put : Cm P w K mg base CX0 1 C_SetBook "put" ["self", "number", "members"] (spPut K C_SetBook) := ⟨_, _, BC.oc.cls, ⟨a_SetBook_put, i_SetBook_put, k_SetBook_put⟩, b_SetBook_put, okp⟩
  have KS_SetBook_put : CmKs P w K mg base CX0 1 C_SetBook "put" ["self", "number", "members"] ["number", "members"] (spPut K C_SetBook) := ⟨_, _, BC.oc.cls, ⟨a_SetBook_put, i_SetBook_put, k_SetBook_put⟩, ⟨fun s u ws h => match ws, h with | [_, _], _ => .of_eq rfl⟩, okp⟩
  have okw := ok_write (P := P) (w := w) (base := base) F_SetBook_write BC M_SetBook_put
  have M_SetBook_write : Cm P w K mg base CX0 2 C_SetBook "write" ["self", "members"] (spWrite K C_SetBook) := ⟨_, _, BC.oc.cls, ⟨a_SetBook_write, i_SetBook_write, k_SetBook_write⟩, b_SetBook_write, okw⟩
  have K_SetBook_write : CmK P w K mg base CX0 2 C_SetBook "write" ["self", "members"] "members" (spWrite K C_SetBook) := ⟨_, _, BC.oc.cls, ⟨a_SetBook_write, i_SetBook_write, k_SetBook_write⟩, ⟨fun s us v h => match us, h with | [_], _ => .of_eq rfl⟩, okw⟩
  have M_SetBook_taken : Cm P w K mg base CX0 1 C_SetBook "taken" ["self"] (spTaken C_SetBook) := ⟨_, _, BC.oc.cls, ⟨a_SetBook_taken, i_SetBook_taken, k_SetBook_taken⟩, b_SetBook_taken, ok_taken F_SetBook_taken B BC⟩
  have D__law_tape : Ce P w K mg base CX0 1 "_law_tape" ["_law_script", "_law_start"] (spTape K) := ⟨_, _, MG a__law_tape, k__law_tape, b__law_tape, ok_tape F__law_tape B⟩
  have D__law_pick : Ce P w K mg base CX0 1 "_law_pick" ["_law_tape_here", "_law_many"] spPick := ⟨_, _, MG a__law_pick, k__law_pick, b__law_pick, ok_pick F__law_pick B⟩
  have D__law_one_of : Ce P w K mg base CX0 2 "_law_one_of" ["_law_tape_here", "_law_items"] (spOne K) := ⟨_, _, MG a__law_one_of, k__law_one_of, b__law_one_of, ok_one F__law_one_of B D__law_pick⟩
  have D__law_any : Ce P w K mg base CX0 3 "_law_any" ["_law_tape_here"] (spAnyN K) := ⟨_, _, MG a__law_any, k__law_any, b__law_any, ok_any F__law_any D__law_one_of⟩
  have D__law_list : Ce P w K mg base CX0 3 "_law_list" ["_law_tape_here"] (spList K) := ⟨_, _, MG a__law_list, k__law_list, b__law_list, ok_list F__law_list B D__law_one_of⟩
  have D__law_got : Ce P w K mg base CX0 8 "_law_got" ["_law_book", "_law_nth"] (spGot K C_SetBook) := ⟨_, _, MG a__law_got, k__law_got, b__law_got, ok_got F__law_got E_UnknownSet.g GET_SetBook E_UnknownSet.xf E_UnknownSet.no E_UnknownSet.em⟩
  have D__law_gone : Ce P w K mg base CX0 8 "_law_gone" ["_law_book", "_law_nth"] (spGone K C_SetBook) := ⟨_, _, MG a__law_gone, k__law_gone, b__law_gone, ok_gone F__law_gone E_UnknownSet.g M_SetBook_forget E_UnknownSet.xf E_UnknownSet.no E_UnknownSet.em⟩
  have D__law_is_there : Ce P w K mg base CX0 1 "_law_is_there" ["_law_own", "_law_value"] (spThere K) := ⟨_, _, MG a__law_is_there, k__law_is_there, b__law_is_there, ok_there F__law_is_there B⟩
  have D__law_right : Ce P w K mg base CX0 9 "_law_right" ["_law_book", "_law_own", "_law_values"] (spRight K C_SetBook) := ⟨_, _, MG a__law_right, k__law_right, b__law_right, ok_right F__law_right B IN_SetBook LEN_SetBook M_SetBook_taken D__law_is_there D__law_got⟩
  have D__law_least : Ce P w K mg base CX0 1 "_law_least" ["_law_own"] spLeast := ⟨_, _, MG a__law_least, k__law_least, b__law_least, ok_least F__law_least B⟩
  have D__law_step_right : Ce P w K mg base CX0 9 "_law_step_right" ["_law_tape_here", "_law_book", "_law_own"] (spStep K C_SetBook) := ⟨_, _, MG a__law_step_right, k__law_step_right, b__law_step_right, ok_step F__law_step_right B D__law_pick D__law_one_of D__law_any D__law_list D__law_least D__law_is_there D__law_gone M_SetBook_write M_SetBook_put⟩
  exact ok_law F_law B D__law_tape D__law_any D_SetBook D__law_step_right D__law_right K_SetBook_write KS_SetBook_put M_SetBook_taken KQ_forget
end K14
open PySem PySem.W PyProof.Rows
set_option maxRecDepth 100000 in
set_option maxHeartbeats 0 in
theorem PySem.Challenge.cw_rowmarks_k14_books_of_sets_holds : PySem.Challenge.rw_rowmarks_k14_books_of_sets.Holds := by
  w_on; o_law; k_head; (case hw => w_witness2)
  k_fill
  refine Rm.walkG (l := PySem.Challenge.rw_rowmarks_k14_books_of_sets) (k := 10) rfl rfl ⟨rfl, by decide, by decide⟩ (fun w h Y => PySem.W.kIn_of Y) ?F
  case F =>
    intro w mg fa h KX G hmg
    refine' K14.all_mk (P := PySem.Challenge.pw_rowmarks_k14_books_of_sets) KX G hmg ?E_UnknownSet ?m_g ?m_pg ?m_hd ?m_po ?m_sa ?m_mk ?m_k ?m_ty ?m_ha ?m_hn ?m_ht ?m_hm ?m_ns
      ?a_is_whole ?l_is_whole ?c_is_whole ?k_is_whole ?a_SetBook___init__ ?i_SetBook___init__ ?l_SetBook___init__ ?c_SetBook___init__ ?k_SetBook___init__ ?a_SetBook_write ?i_SetBook_write ?l_SetBook_write ?c_SetBook_write ?k_SetBook_write ?a_SetBook_put ?i_SetBook_put ?l_SetBook_put ?c_SetBook_put ?k_SetBook_put ?a_SetBook_forget ?i_SetBook_forget ?l_SetBook_forget ?c_SetBook_forget ?k_SetBook_forget ?a_SetBook_taken ?i_SetBook_taken ?l_SetBook_taken ?c_SetBook_taken ?k_SetBook_taken ?a_SetBook__check_taken ?i_SetBook__check_taken ?l_SetBook__check_taken ?c_SetBook__check_taken ?k_SetBook__check_taken ?a_SetBook___getitem__ ?i_SetBook___getitem__ ?l_SetBook___getitem__ ?c_SetBook___getitem__ ?k_SetBook___getitem__ ?a_SetBook___contains__ ?i_SetBook___contains__ ?l_SetBook___contains__ ?c_SetBook___contains__ ?k_SetBook___contains__ ?a_SetBook___len__ ?i_SetBook___len__ ?l_SetBook___len__ ?c_SetBook___len__ ?k_SetBook___len__ ?a__law_tape ?l__law_tape ?c__law_tape ?k__law_tape ?a__law_pick ?l__law_pick ?c__law_pick ?k__law_pick ?a__law_one_of ?l__law_one_of ?c__law_one_of ?k__law_one_of ?a__law_any ?l__law_any ?c__law_any ?k__law_any ?a__law_list ?l__law_list ?c__law_list ?k__law_list ?a__law_got ?l__law_got ?c__law_got ?k__law_got ?a__law_gone ?l__law_gone ?c__law_gone ?k__law_gone ?a__law_is_there ?l__law_is_there ?c__law_is_there ?k__law_is_there ?a__law_right ?l__law_right ?c__law_right ?k__law_right ?a__law_least ?l__law_least ?c__law_least ?k__law_least ?a__law_step_right ?l__law_step_right ?c__law_step_right ?k__law_step_right ?a_law ?l_law ?c_law ?k_law ?fn0 ?fn1 ?fn2 ?n_int ?n_len ?n_isinstance ?n_str ?n_range ?n_max ?n_min ?n_list ?n_repr ?n_enumerate ?n_tuple ?n_sorted ?n_bool ?n_dict ?n_set ?n_ValueError
    (case E_UnknownSet =>
      refine' Rm.ef_mk (st := K14.s_UnknownSet___init__) KX G ?e_g ?e_l ?e_v ?e_t ?e_sa ?e_ga ?e_gg ?e_ex ?e_ty ?e_k ?e_hd ?e_no ?e_sub ?e_self ?e_sup ?e_any ?e_ha ?e_hn ?e_ht ?e_hm ?e_i ?e_it ?e_f ?e_c ?e_cd ?e_fi ?e_pf ?e_cc ?e_df ?htop ?n_super ?hb1 ?hb2 ?hfn
      (case e_g => k_is)
      (case e_l => k_is)
      (case e_v => decide +kernel)
      (case e_t => first | rfl | decide +kernel)
      (case e_sa => k_is)
      (case e_ga => k_is)
      (case e_gg => k_is)
      (case e_ex => k_is)
      (case e_ty => k_is)
      (case e_k => k_is)
      (case e_hd => k_is)
      (case e_no => k_is)
      (case e_sub => k_is)
      (case e_self => k_is)
      (case e_sup => ks_is)
      (case e_any => k_is)
      (case e_ha => k_is)
      (case e_hn => k_is)
      (case e_ht => k_is)
      (case e_hm => k_is)
      (case e_i => k_is)
      (case e_it => k_is)
      (case e_f => k_is)
      (case e_c => k_is)
      (case e_cd => k_is)
      (case e_fi => rfl)
      (case e_pf => first | rfl | decide +kernel)
      (case e_cc => k_is)
      (case e_df => rfl)
      (case htop => first | rfl | decide +kernel)
      (case n_super => k_is)
      (case hb1 => exact fun _ _ => .all fun us hl => match us, hl with | [_, _], _ => rfl)
      (case hb2 => exact ⟨fun s us w h => match us, h with | [_], _ => .of_eq rfl⟩)
      (case hfn => exact fun base ns T => Rm.fn_err (ars := []) T rfl rfl rfl rfl rfl rfl rfl ns (by first | rfl | decide +kernel) (by decide +kernel) (by decide +kernel) (by decide +kernel) (by decide +kernel) (pl := _) (fun env => rfl) (by decide +kernel) (by decide +kernel)))
    (case m_g => k_is); (case m_pg => k_is); (case m_hd => k_is); (case m_po => k_is); (case m_sa => k_is); (case m_mk => k_is); (case m_k => k_is); (case m_ty => k_is); (case m_ha => k_is); (case m_hn => k_is); (case m_ht => k_is); (case m_hm => k_is); (case m_ns => k_is)
    (case a_is_whole => k_is); (case l_is_whole => k_is); (case c_is_whole => k_is); (case k_is_whole => k_is)
    (case a_SetBook___init__ => k_is); (case i_SetBook___init__ => k_is); (case l_SetBook___init__ => k_is); (case c_SetBook___init__ => k_is); (case k_SetBook___init__ => k_is)
    (case a_SetBook_write => k_is); (case i_SetBook_write => k_is); (case l_SetBook_write => k_is); (case c_SetBook_write => k_is); (case k_SetBook_write => k_is)
    (case a_SetBook_put => k_is); (case i_SetBook_put => k_is); (case l_SetBook_put => k_is); (case c_SetBook_put => k_is); (case k_SetBook_put => k_is)
    (case a_SetBook_forget => k_is); (case i_SetBook_forget => k_is); (case l_SetBook_forget => k_is); (case c_SetBook_forget => k_is); (case k_SetBook_forget => k_is)
    (case a_SetBook_taken => k_is); (case i_SetBook_taken => k_is); (case l_SetBook_taken => k_is); (case c_SetBook_taken => k_is); (case k_SetBook_taken => k_is)
    (case a_SetBook__check_taken => k_is); (case i_SetBook__check_taken => k_is); (case l_SetBook__check_taken => k_is); (case c_SetBook__check_taken => k_is); (case k_SetBook__check_taken => k_is)
    (case a_SetBook___getitem__ => k_is); (case i_SetBook___getitem__ => k_is); (case l_SetBook___getitem__ => k_is); (case c_SetBook___getitem__ => k_is); (case k_SetBook___getitem__ => k_is)
    (case a_SetBook___contains__ => k_is); (case i_SetBook___contains__ => k_is); (case l_SetBook___contains__ => k_is); (case c_SetBook___contains__ => k_is); (case k_SetBook___contains__ => k_is)
    (case a_SetBook___len__ => k_is); (case i_SetBook___len__ => k_is); (case l_SetBook___len__ => k_is); (case c_SetBook___len__ => k_is); (case k_SetBook___len__ => k_is)
    (case a__law_tape => k_is); (case l__law_tape => k_is); (case c__law_tape => k_is); (case k__law_tape => k_is)
    (case a__law_pick => k_is); (case l__law_pick => k_is); (case c__law_pick => k_is); (case k__law_pick => k_is)
    (case a__law_one_of => k_is); (case l__law_one_of => k_is); (case c__law_one_of => k_is); (case k__law_one_of => k_is)
    (case a__law_any => k_is); (case l__law_any => k_is); (case c__law_any => k_is); (case k__law_any => k_is)
    (case a__law_list => k_is); (case l__law_list => k_is); (case c__law_list => k_is); (case k__law_list => k_is)
    (case a__law_got => k_is); (case l__law_got => k_is); (case c__law_got => k_is); (case k__law_got => k_is)
    (case a__law_gone => k_is); (case l__law_gone => k_is); (case c__law_gone => k_is); (case k__law_gone => k_is)
    (case a__law_is_there => k_is); (case l__law_is_there => k_is); (case c__law_is_there => k_is); (case k__law_is_there => k_is)
    (case a__law_right => k_is); (case l__law_right => k_is); (case c__law_right => k_is); (case k__law_right => k_is)
    (case a__law_least => k_is); (case l__law_least => k_is); (case c__law_least => k_is); (case k__law_least => k_is)
    (case a__law_step_right => k_is); (case l__law_step_right => k_is); (case c__law_step_right => k_is); (case k__law_step_right => k_is)
    (case a_law => k_is); (case l_law => k_is); (case c_law => k_is); (case k_law => k_is)
    (case fn0 => k_is); (case fn1 => k_is); (case fn2 => k_is)
    (case n_int => k_is); (case n_len => k_is); (case n_isinstance => k_is); (case n_str => k_is); (case n_range => k_is); (case n_max => k_is); (case n_min => k_is); (case n_list => k_is); (case n_repr => k_is); (case n_enumerate => k_is); (case n_tuple => k_is); (case n_sorted => k_is); (case n_bool => k_is); (case n_dict => k_is); (case n_set => k_is); (case n_ValueError => k_is)

